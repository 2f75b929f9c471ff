import PyProof.Rows.All
import Wide.All
import OpenK.AllK
import Wide.FinOn
import Lean
import PyProof.EqAt
import PyProof.EqKinds
import PyProof.TupleCall
import PyProof.DictWalks
import PyProof.ExcAttrAll.ValueError
import PyProof.ExcBaseAll.ValueError
import PyProof.ZipIter
import PyProof.SumWalk
import PyProof.ExcInit
import PyProof.ExcClass2
import PyProof.InstStoreFacts
import PyProof.ReprRoads
import PySem.Challenge.RW_ownshelf_k43_strict_walkers
set_option Elab.async false
set_option linter.all false
set_option maxRecDepth 100000
set_option maxHeartbeats 8000000
set_option compiler.extract_closed false
set_option compiler.reuse false
set_option bootstrap.genMatcherCode false
abbrev zFr:=PySem.W.Frag
abbrev zLA:=List (PySem.Str×PySem.Addr)
abbrev zAO:=List (PySem.Addr×PySem.Obj)
abbrev zVP:=PySem.Value->PySem.Shared->Prop
abbrev zMg:=PySem.Str->Option PySem.Value
abbrev z11:=@Nat.le_of_ble_eq_true
abbrev z12:=@PySem.wpAny_bind
abbrev z13:=@List.length_append
abbrev z14:=@PySem.Heap.get?_push_of_some
abbrev z15:=@List.getElem?_eq_some_iff
abbrev z16:=@Nat.le_refl
abbrev z17:=@List.size_toArray
abbrev z18:=@Nat.lt_of_lt_of_le
abbrev z19:=@List.getElem?_eq_getElem
abbrev z2a:=@PySem.wpAny_pure
abbrev z2b:=@decide_eq_false
abbrev z2c:=@PySem.Heap.lt_size
abbrev z2d:=@List.length_take
abbrev z2e:=@List.mem_cons_of_mem
abbrev z2f:=@Nat.ne_of_lt
abbrev z2g:=@decide_eq_true
abbrev z2h:=@Nat.le_trans
abbrev z2i:=@List.mem_append_right
abbrev z2j:=@List.getElem?_append_right
abbrev z2k:=@List.getElem?_append_left
abbrev z2l:=@List.mem_cons
abbrev z2m:=@PySem.Heap.get?_update_other
abbrev z2n:=@Option.some.inj
abbrev z2o:=@List.map_cons
abbrev z2p:=@List.all_eq_true
abbrev z2q:=@PySem.Heap.get?_push_size
abbrev z2r:=@List.getElem?_set_self
abbrev z2s:=@List.length_drop
abbrev z2t:=@Bool.and_eq_true
abbrev z2u:=@PySem.W.mg_none_of
abbrev z2v:=@if_pos
abbrev z2w:=@if_neg
abbrev z2x:=@Nat.zero_le
abbrev z2y:=@List.append_nil
abbrev z2z:=@List.mem_cons_self
abbrev z20:=@List.mem_singleton
abbrev z21:=@Bool.false_eq_true
abbrev z22:=@PySem.W.kia_one
abbrev z23:=@List.getElem?_set_ne
abbrev z24:=@List.mem_of_mem_take
abbrev z25:=@Int.emod_lt_of_pos
abbrev z26:=@Ne.symm
abbrev z27:=@PySem.Heap.get?_update_self
abbrev z28:=@List.length_pos_iff
abbrev z29:=@Array.getElem?_eq_some_iff
abbrev z3a:=@PySem.sizeLine_eq
abbrev z3b:=@List.length_set
abbrev z3c:=@Int.emod_nonneg
abbrev z3d:=@Nat.le_add_right
abbrev z3e:=@decide_eq_decide
abbrev z3f:=@PySem.wpAny_truthy_bool
abbrev z3g:=@Bool.false_ne_true
abbrev z3h:=@PySem.wpAny_Call_Name_kw
abbrev z3i:=@PySem.Obj.data_mapFields
abbrev z3j:=@PySem.Heap.get?_none_of_le
abbrev z3k:=@beq_iff_eq
abbrev z3l:=@List.getElem?_map
abbrev z3m:=@List.length_reverse
abbrev z3n:=@Nat.lt_irrefl
abbrev z3o:=@List.drop_eq_getElem_cons
abbrev z3p:=@List.cons.injEq
abbrev z3q:=@PySem.W.callWith_K
abbrev z3r:=@Option.isSome_iff_exists
abbrev z3s:=@List.getElem?_take_of_lt
abbrev z3t:=@PySem.wpAny_execs_cons
abbrev z3u:=@Nat.le_of_lt
abbrev z3v:=@PyProof.Rows.callWith_type1
abbrev z3w:=@PySem.F.attrBase_ValueError
abbrev z3x:=@PySem.W.methodCall_KW
abbrev z3y:=@PySem.W.mg_of
abbrev z3z:=@PySem.Obj.isFreed_of_fields
abbrev z30:=@congrArg
abbrev z31:=@PySem.codeAny_call_builtin
abbrev z32:=@List.mem_append
abbrev z33:=@PyProof.Rows.slot_tuple_getitem
abbrev z34:=@PySem.wpAny_newObj_type
abbrev z35:=@PySem.mem_of_lookup
abbrev z36:=@if_false
abbrev z37:=@if_true
abbrev z38:=@PySem.codeAny_handlers_test
abbrev z39:=@decide_eq_true_eq
abbrev z4a:=@PySem.F.excBase_ValueError
abbrev z4b:=@List.mem_append_left
abbrev z4c:=@List.mem_of_getElem?
abbrev z4d:=@List.getElem_mem
abbrev z4e:=@beq_eq_false_iff_ne
abbrev z4f:=@Nat.le_succ
abbrev z4g:=@PySem.wpAny_field
abbrev z4h:=@PySem.wpAny_handleBy_cons
abbrev z4i:=@PySem.wpAny_call
abbrev z4j:=@PySem.F.args_tuple_add_2
abbrev z4k:=@Array.findIdx?_eq_some_iff_getElem
abbrev z4l:=@PySem.wpAny_execs_nil
abbrev z4m:=@PySem.wpAny_passesOwn
abbrev z4n:=@PySem.Calls.spliced_cons
abbrev z4o:=@PySem.F.entry_tuple_add
abbrev z4p:=@Nat.lt_of_le_of_lt
abbrev z4q:=@List.eraseIdx_append_of_length_le
abbrev z4r:=@Array.all_eq_true_iff_forall_mem
abbrev z4s:=@PySem.F.slot_tuple_add
abbrev z4t:=@List.drop_eq_nil_of_le
abbrev z4u:=@PySem.plainObj_wpAny_Assign_Attribute
abbrev z4v:=@List.reverse_cons
abbrev z4w:=@PySem.wpAny_loadPart
abbrev z4x:=@PySem.codeAny_mono
abbrev z4y:=@PySem.W.looks_findIn
abbrev z4z:=@List.mem_reverse
abbrev z40:=@List.take_length
abbrev z41:=@PySem.Calls.evalArgs_plain
abbrev z42:=@PySem.wpAny_standAt
abbrev z43:=@PySem.wpAny_mono
abbrev z44:=@PySem.W.plainGet_of
abbrev z45:=@List.length_map
abbrev z46:=@PySem.W.callWith_K0
abbrev z47:=@List.nodup_cons
abbrev z48:=@Nat.le_add_left
abbrev z49:=@Nat.not_lt_zero
abbrev z5a:=@Nat.min_eq_left
abbrev z5b:=@PySem.PassesOwn.never
abbrev z5c:=@List.length_eraseIdx_of_lt
abbrev z5d:=@Nat.ne_of_gt
abbrev z5e:=@Array.find?_toList
abbrev z5f:=@PySem.Code.quiet_builtin
abbrev z5g:=@Nat.lt_or_ge
abbrev z5h:=@Bool.false_and
abbrev z5i:=@PySem.Heap.size_push
abbrev z5j:=@PySem.wpAny_setField
abbrev z5k:=@PySem.W.kitx_list
abbrev z5l:=@of_decide_eq_true
abbrev z5m:=@PySem.W.looks_mroIn
abbrev z5n:=@PySem.wpAny_attempt
abbrev z5o:=@PySem.strLen_append
abbrev z5p:=@Bool.and_true
abbrev z5q:=@Nat.lt_succ_self
abbrev z5r:=@Nat.succ_le_succ
abbrev z5s:=@List.drop_length
abbrev z5t:=@Nat.le_of_eq
abbrev z5u:=@List.of_mem_zip
abbrev z5v:=@PySem.concat_meets
abbrev z5w:=@List.map_nil
abbrev z5x:=@Int.add_zero
abbrev z5y:=@Nat.not_lt
abbrev z5z:=@Bool.and_false
noncomputable section
namespace L2
open PySem PySem.Spec PyProof.Rows
abbrev Key:=Sum Int Str
def zwt:Key->Value->Bool
 | .inl k,v=>Value.isInt k v
 | .inr x,v=>Value.isStrOf x v
def z1p(w:World):Key->Int
 | .inl k=>hashInt k
 | .inr x=>hashStr w x
theorem jv:∀{k:Key}{v:Value},zwt k v=true->(∃i t,k=Sum.inl i/\v=Value.int i t)\/(∃x t,k=Sum.inr x/\v=Value.str x t)
 | .inl i,v,h=>by obtain⟨t,e⟩:=Value.isInt_shape (k:=i) (v:=v) h;exact .inl ⟨i,t,rfl,e⟩
 | .inr x,v,h=>by obtain⟨t,e⟩:=Value.isStrOf_shape (x:=x) (v:=v) h;exact .inr ⟨x,t,rfl,e⟩
theorem zws(a b:Int):decide ((Sum.inl a:Key)=Sum.inl b)=(a==b):=by
 by_cases e:a=b
 · subst e;simp
 · have h:¬ (Sum.inl a:Key)=Sum.inl b:=fun q=>e (Sum.inl.inj q);rw[z2b h];exact(z4e.mpr e).symm
theorem zwp(a b:Str):decide ((Sum.inr a:Key)=Sum.inr b)=decide (a=b):=by
 by_cases e:a=b
 · subst e;simp
 · have h:¬ (Sum.inr a:Key)=Sum.inr b:=fun q=>e (Sum.inr.inj q);rw[z2b h,z2b e]
theorem zwr(a:Int)(b:Str):decide ((Sum.inl a:Key)=Sum.inr b)=false:=z2b (fun q=>nomatch q)
theorem zwq(a:Str)(b:Int):decide ((Sum.inr a:Key)=Sum.inl b)=false:=z2b (fun q=>nomatch q)
def zmb(prog:Program)(w:World):PySem.KeyKind prog w Key where
 is:=zwt
 hash:=z1p w
 inj:=fun v a b ha hb=>by
   rcases jv ha with⟨i,t,rfl,rfl⟩ | ⟨x,t,rfl,rfl⟩
   · rcases jv hb with⟨j,u,rfl,e⟩ | ⟨y,u,rfl,e⟩
     · injection e with e1 _;rw[e1]
     · exact nomatch e
   · rcases jv hb with⟨j,u,rfl,e⟩ | ⟨y,u,rfl,e⟩
     · exact nomatch e
     · injection e with e1 _;rw[e1]
 byValue:=fun k v h=>by rcases jv h with⟨i,t,rfl,rfl⟩ | ⟨x,t,rfl,rfl⟩<;>rfl
 pyHash:=fun hv h=>by
   rcases jv hv with⟨i,t,rfl,rfl⟩ | ⟨x,t,rfl,rfl⟩
   · exact wpAny_pyHash_int h
   · exact wpAny_pyHash_str h
 eqBool:=fun hu hv h=>by
   rcases jv hu with⟨i,t,rfl,rfl⟩ | ⟨x,t,rfl,rfl⟩
   · rcases jv hv with⟨j,u,rfl,rfl⟩ | ⟨y,u,rfl,rfl⟩
     · rw[zws]at h;exact wpAny_eqBool_int h
     · rw[zwr]at h;exact SeqAt.EqAt.int_str i t y u _ _ _ _ h
   · rcases jv hv with⟨j,u,rfl,rfl⟩ | ⟨y,u,rfl,rfl⟩
     · rw[zwq]at h;exact SeqAt.EqAt.str_int x t j u _ _ _ _ h
     · rw[zwp]at h;exact wpAny_eqBool_str h
 «strs»:=fun k x t v h=>by
   rcases jv h with⟨i,u,rfl,e⟩ | ⟨y,u,rfl,e⟩
   · exact nomatch e
   · injection e with e1 _;subst e1;cases v<;>rfl
inductive V where
 |non | bl (b:Bool) | int (i:Int) | str (x:Str) | byt (b:Array UInt8) | flt (b:UInt64) | ref (a:Addr) | ty (n:String)
 deriving DecidableEq
def RelV:V->Value->Prop
 | .non,u=>u=Value.none
 | .bl b,u=>u=Value.bool b
 | .int i,u=>∃t,u=Value.int i t
 | .str x,u=>∃t,u=Value.str x t
 | .byt b,u=>∃t,u=Value.bytes b t
 | .flt b,u=>∃t,u=Value.float b t
 | .ref a,u=>u=Value.ref a
 | .ty n,u=>u=Value.type n
abbrev Vals:List V->List Value->Prop:=Paired RelV
theorem Vals.length{xs:List V}{us:List Value}(r:Vals xs us):xs.length=us.length:=Paired.length r
theorem Vals.get:∀{xs:List V}{us:List Value}{i:Nat}{x:V},Vals xs us->xs[i]? = some x->∃u,us[i]? = some u/\RelV x u
 |_,_,_,_,.nil,e=>by simp at e
 |_,_,0,_,.cons r _,e=>by simp at e;subst e;exact⟨_,rfl,r⟩
 | _,_,i+1,x,.cons _ t,e=>by obtain⟨u,h1,h2⟩:=Vals.get (i:=i) (x:=x) t (by simpa using e);exact⟨u,by simpa using h1,h2⟩
theorem Vals.append:∀{xs ys:List V}{us ws:List Value},Vals xs us->Vals ys ws->Vals (xs++ys) (us++ws)
 |_,_,_,_,.nil,s=>s
 |_,_,_,_,.cons r t,s=>.cons r (Vals.append t s)
theorem Vals.take:∀{xs:List V}{us:List Value} (n:Nat),Vals xs us->Vals (xs.take n) (us.take n)
 |_,_,0,_=>.nil
 |_,_,_+1,.nil=>.nil
 |_,_,n+1,.cons r t=>.cons r (Vals.take n t)
theorem Vals.drop:∀{xs:List V}{us:List Value} (n:Nat),Vals xs us->Vals (xs.drop n) (us.drop n)
 |_,_,0,r=>r
 |_,_,_+1,.nil=>.nil
 |_,_,n+1,.cons _ t=>Vals.drop n t
def RelO:Option V->Option Value->Prop
 |some v,some u=>RelV v u
 |none,none=>True
 |_,_=>False
def KV{κ:Type}:List (κ×V)->List (κ×Value)->Prop:=Paired fun(p:κ×V) (q:κ×Value)=>p.1=q.1/\RelV p.2 q.2
def kV:Key->V
 | .inl i=>.int i
 | .inr x=>.str x
inductive HO where
   |lst (xs:List V)
   |tup (xs:List V)
   |dK (kvs:List (Key×V)) | dT (kvs:List (List Key×V))
   |set (S:Int->Bool) (n:Nat)
   |ins (C dx:Addr) (fs:List (Str×V))
   |own (x:Addr)
   |xd (fs:List (Str×V))
   |met (f x:Addr)
   |rng (lo hi:Int)
   |frz (o:Obj) (u:HO)
   |tbl (ps:Array Value)
   |ext (φ:Heap->Prop)
abbrev Hp:=Addr->Option HO
def upd(H:Hp)(a:Addr)(o:HO):Hp:=fun b=>if b=a then some o else H b
theorem jd{H:Hp}{a:Addr}{o:HO}:upd H a o a=some o:=by unfold upd;rw[z2v rfl]
theorem zw{H:Hp}{a b:Addr}{o:HO}(h:b≠a):upd H a o b=H b:=by unfold upd;rw[z2w h]
theorem z9{H:Hp}{a b:Addr}{o:HO}(h:H a=some o)(h':H b=none):a≠b:=by intro e;subst e;rw[h]at h';cases h'
section
variable (P:Program) (w:World)
def ObjOk(H:Hp)(h:Heap)(a:Addr):HO->Prop
 | .lst xs=>xs.length<=sizeLine/\∃(its:List Value) (n:Nat),Vals xs its/\h.get? a=some { cls:=.type "list",data:=.seq its.toArray n }
 | .tup xs=>xs.length<=sizeLine/\∃its:List Value,Vals xs its/\IsTup h a its.toArray
 | .dK kvs=>kvs.length<=sizeLine/\(a==sysModules)=false/\∃vs,KV kvs vs/\h.DictOf (zmb P w) a vs
 | .dT kvs=>kvs.length<=sizeLine/\(a==sysModules)=false/\∃xs:List (List Key×Addr×Value),
     Paired (fun(p:List Key×V) (q:List Key×Addr×Value)=>p.1=q.1/\H q.2.1=some (.tup (p.1.map kV))/\RelV p.2 q.2.2) kvs xs /\
     ∃o es ep,h.get? a=some o/\o.ExactDict/\o.data=.dict es ep/\es.toList=xs.map (entryOfKey (tupleKind (zmb P w)))/\(xs.map (·.1)).Nodup
 | .set S n=>h.SetOf (intKind P w) a S n
 | .ins C dx fs=>H dx=some (.own a)/\fs.length<=1000/\dx≠a/\h.get? a=some (PySem.W.instObj C dx) /\
     ∃mA,h.Ns1 dx mA/\(∀f,RelO (fs.lookup f) (mA f))/\PySem.Within mA (fs.map (·.1))
 | .own _=>∃o,h.get? a=some o
 | .xd fs=>∃mA,h.Ns1 a mA/\∀f,RelO (fs.lookup f) (mA f)
 | .rng lo hi=>∃t u v,h.get? a=some { cls:=.type "range",data:=.fields #[.int lo t,.int hi u,.int 1 v] }
 | .frz o u=>h.get? a=some o/\ObjOk H h a u
 | .tbl ps=>h.get? a=some { cls:=.none,data:=.fields ps }
 | .met f x=>h.get? a=some (PySem.W.methodObj (.ref f) (.ref x))
 | .ext φ=>φ h/\(∃o,h.get? a=some o)/\∀h1 h2:Heap,φ h1->(∀o,h1.get? a=some o->h2.get? a=some o)->φ h2
def HOk(H:Hp)(h:Heap):Prop:=∀a o,H a=some o->ObjOk P w H h a o
end
section
variable {P:Program}{w:World}{H H':Hp}{h h':Heap}{a:Addr}{o:HO}
theorem ObjOk.lt(x:ObjOk P w H h a o):a<h.objs.size:=by
 cases o with
 |lst xs=>obtain⟨_,_,_,_,e⟩:=x;exact z2c e
 |tup xs=>obtain⟨_,_,_,p⟩:=x;exact p.lt
 |dK kvs=>obtain⟨_,_,_,_,o,_,_,e,_⟩:=x;exact z2c e
 |dT kvs=>obtain⟨_,_,_,_,o,_,_,e,_⟩:=x;exact z2c e
 |set S n=>obtain⟨o,_,_,_,e,_⟩:=x;exact z2c e
 |ins C dx fs=>obtain⟨_,_,_,e,_⟩:=x;exact z2c e
 |own y=>obtain⟨_,e⟩:=x;exact z2c e
 |xd fs=>obtain⟨_,⟨_,_,_,e,_⟩,_⟩:=x;exact z2c e
 |rng lo hi=>obtain⟨_,_,_,e⟩:=x;exact z2c e
 |frz ob u=>obtain⟨e,_⟩:=x;exact z2c e
 |tbl ps=>exact z2c (show h.get? a=some _ from x)
 |met f y=>exact z2c (show h.get? a=some _ from x)
 |ext φ=>obtain⟨_,⟨_,e⟩,_⟩:=x;exact z2c e
theorem Paired.mapP{α β:Type}{F G:α->β->Prop}:∀{l₁:List α}{l₂:List β},Paired F l₁ l₂->(∀a b,F a b->G a b)->Paired G l₁ l₂
 |_,_,.nil,_=>.nil
 |_,_,.cons r t,f=>.cons (f _ _ r) (Paired.mapP t f)
theorem ObjOk.stay(x:ObjOk P w H h a o)(k:∀b u,(b=a\/H b=some (.own a))->h.get? b=some u->h'.get? b=some u)
   (ho:∀b,H b=some (.own a)->H' b=some (.own a)) (ht:∀b xs,H b=some (.tup xs)->H' b=some (.tup xs)):ObjOk P w H' h' a o:=by
 induction o with
 |lst xs=>obtain⟨z,its,n,r,e⟩:=x;exact⟨z,its,n,r,k _ _ (.inl rfl) e⟩
 |tup xs=>obtain⟨z,its,r,ob,e,c⟩:=x;exact⟨z,its,r,ob,k _ _ (.inl rfl) e,c⟩
 |dK kvs=>obtain⟨z,y,vs,r,ob,es,ep,e,c⟩:=x;exact⟨z,y,vs,r,ob,es,ep,k _ _ (.inl rfl) e,c⟩
 | dT kvs=>
   obtain⟨z,y,xs,r,ob,es,ep,e,c⟩:=x;exact⟨z,y,xs,Paired.mapP r fun p q z=>⟨z.1,ht _ _ z.2.1,z.2.2⟩,ob,es,ep,k _ _ (.inl rfl) e,c⟩
 |set S n=>obtain⟨ob,es,ep,t,e,c⟩:=x;exact⟨ob,es,ep,t,k _ _ (.inl rfl) e,c⟩
 | ins C dx fs=>
   obtain⟨d,z,ne,e,mA,⟨od,es,ep,e2,c⟩,r⟩:=x;exact⟨ho _ d,z,ne,k _ _ (.inl rfl) e,mA,⟨od,es,ep,k _ _ (.inr d) e2,c⟩,r⟩
 |own y=>obtain⟨ob,e⟩:=x;exact⟨ob,k _ _ (.inl rfl) e⟩
 |xd fs=>obtain⟨mA,⟨od,es,ep,e,c⟩,r⟩:=x;exact⟨mA,⟨od,es,ep,k _ _ (.inl rfl) e,c⟩,r⟩
 |rng lo hi=>obtain⟨t,u,v,e⟩:=x;exact⟨t,u,v,k _ _ (.inl rfl) e⟩
 |frz ob u ih=>obtain⟨e,q⟩:=x;exact⟨k _ _ (.inl rfl) e,ih q⟩
 | tbl ps=>
   have e:h.get? a=some { cls:=.none,data:=.fields ps }:=x;show h'.get? a=some { cls:=.none,data:=.fields ps };exact k a _ (.inl rfl) e
 | met f y=>
   have e:h.get? a=some (PySem.W.methodObj (.ref f) (.ref y)):=x;show h'.get? a=some (PySem.W.methodObj (.ref f) (.ref y));exact k a _ (.inl rfl) e
 |ext φ=>obtain⟨p,⟨o,e⟩,st⟩:=x;exact⟨st _ _ p fun o q=>k _ _ (.inl rfl) q,⟨o,k _ _ (.inl rfl) e⟩,st⟩
theorem HOk.lt(x:HOk P w H h)(e:H a=some o):a<h.objs.size:=(x a o e).lt
theorem HOk.fresh(x:HOk P w H h)(e:h.objs.size<=a):H a=none:=by
 cases q:H a with
 |none=>rfl
 |some u=>exact absurd (z18 (x.lt q) e) (z3n _)
theorem HOk.kept(x:HOk P w H h)(k:∀b u,h.get? b=some u->h'.get? b=some u):HOk P w H h':=fun a o e=>
 (x a o e).stay (fun b u _ q=>k b u q) (fun _ q=>q) fun _ _ q=>q
theorem HOk.laid(x:HOk P w H h)(k:∀b u,h.get? b=some u->h'.get? b=some u)(hp:h.objs.size<=a)(new:ObjOk P w (upd H a o) h' a o):HOk P w (upd H a o) h':=fun b u e=>by
 have hn:=x.fresh hp;by_cases hb:b=a
 · subst hb;rw[jd]at e;cases e;exact new
 · rw[zw hb]at e;exact(x b u e).stay (fun c v _ q=>k c v q) (fun c q=>by rw[zw (z9 q hn)];exact q) fun c xs q=>by rw[zw (z9 q hn)];exact q
end
def Rd(H:Hp)(a:Addr)(u:HO):Prop:=H a=some u\/∃o,H a=some (.frz o u)
theorem Rd.ok{P:Program}{w:World}{H:Hp}{h:Heap}{a:Addr}{u:HO}(r:Rd H a u)(x:HOk P w H h):ObjOk P w H h a u:=by
 rcases r with r | ⟨o,r⟩
 · exact x a u r
 · obtain⟨_,q⟩:=x a _ r;exact q
def Mut:Option HO->Prop
 |some (.lst _)=>True
 |some (.dK _)=>True
 |some (.dT _)=>True
 |some (.set _ _)=>True
 |some (.ins _ _ _)=>True
 |some (.ext _)=>True
 |_=>False
section
variable {P:Program}{w:World}{H:Hp}{h h':Heap}{x e:Addr}{o':HO}
theorem HOk.write(ok:HOk P w H h)(mu:Mut (H x))(he:e=x\/H e=some (.own x))(k:∀b u,b≠e->h.get? b=some u->h'.get? b=some u)(heo:∃u,h'.get? e=some u)
   (new:ObjOk P w (upd H x o') h' x o'):HOk P w (upd H x o') h':=fun b u q=>by
 have nown:∀c y,H c=some (.own y)->c≠x:=fun c y r z=>by subst z;rw[r]at mu;exact mu
 have ntup:∀c xs,H c=some (.tup xs)->c≠x:=fun c xs r z=>by subst z;rw[r]at mu;exact mu
 by_cases hb:b=x
 · subst hb;rw[jd]at q;cases q;exact new
 · rw[zw hb]at q;by_cases hbe:b=e
   · have q':H b=some (.own x):=by
       rcases he with z | z
       · exact absurd (hbe.trans z) hb
       · rw[hbe];exact z
     rw[q]at q';cases q';obtain⟨v,hv⟩:=heo;exact⟨v,by rw[hbe];exact hv⟩
   · refine(ok b u q).stay (fun c v hc r=>k c v ?_ r) (fun c r=>by rw[zw (nown c b r)];exact r) fun c xs r=>by rw[zw (ntup c xs r)];exact r
     rcases hc with rfl | hc
     · exact hbe
     · rintro rfl;rcases he with z | z
       · exact nown c b hc z
       · rw[hc]at z;cases z;exact hb rfl
end
structure Un (fs ex:List Addr) (H H':Hp) (h h':Heap):Prop where
 keep:∀b o,h.get? b=some o->H b=none->b∉fs->b∉ex->h'.get? b=some o
 slot:∀b o,h.get? b=some o->H b=none->b∈fs->b∉ex->∃sl,h'.get? b=some { o with slots:=sl }
 free:∀b o,h.get? b=some o->H b=none->b∉ex->H' b=none
 there:∀b o,h.get? b=some o->b∉ex->∃o',h'.get? b=some o'
 tups:∀b xs,H b=some (.tup xs)->H' b=some (.tup xs)
 frzs:∀b o u,H b=some (.frz o u)->H' b=some (.frz o u)
 tbls:∀b ps,H b=some (.tbl ps)->∃more,H' b=some (.tbl (ps++more))
section
variable {fs fs' ex ex':List Addr}{H H1 H2:Hp}{h h1 h2 h':Heap}{a x e:Addr}{o:HO}
theorem Un.any(u:Un fs ex H H1 h h1){b:Addr}{ob:Obj}(q:h.get? b=some ob)(n:H b=none)(hx:b∉ex):∃sl,h1.get? b=some { ob with slots:=sl }:=by
 by_cases hb:b∈fs
 · exact u.slot b ob q n hb hx
 · exact⟨ob.slots,u.keep b ob q n hb hx⟩
theorem Un.kept(k:∀b u,h.get? b=some u->h'.get? b=some u):Un fs ex H H h h' :=
 ⟨fun b ob q _ _ _=>k b ob q,fun b ob q _ _ _=>⟨ob.slots,k b ob q⟩,fun _ _ _ n _=>n,fun b ob q _=>⟨ob,k b ob q⟩,fun _ _ q=>q,fun _ _ _ q=>q,fun _ ps q=>⟨#[],by rw[q];simp⟩⟩
theorem Un.refl:Un fs ex H H h h:=Un.kept fun _ _ q=>q
theorem Un.laid(k:∀b u,h.get? b=some u->h'.get? b=some u)(hp:h.objs.size<=a)(hn:H a=none):Un fs ex H (upd H a o) h h' where
 keep:=fun b u q _ _ _=>k b u q
 slot:=fun b u q _ _ _=>⟨u.slots,k b u q⟩
 free:=fun b u q n _=>by rw[zw (z2f (z18 (z2c q) hp))];exact n
 there:=fun b u q _=>⟨u,k b u q⟩
 tups:=fun b xs q=>by rw[zw (z9 q hn)];exact q
 frzs:=fun b u xs q=>by rw[zw (z9 q hn)];exact q
 tbls:=fun b ps q=>⟨#[],by rw[zw (z9 q hn),q];simp⟩
theorem Un.write(mu:Mut (H x))(he:e=x\/H e=some (.own x))(k:∀b u,b≠e->h.get? b=some u->h'.get? b=some u)(heo:∃u,h'.get? e=some u):Un fs ex H (upd H x o) h h':=by
 have hx:∀b,H b=none->b≠x:=fun b n z=>by subst z;rw[n]at mu;exact mu
 have hb:∀b,H b=none->b≠e:=fun b n z=>by
   subst z;rcases he with r | r
   · exact hx b n r
   · rw[n]at r;cases r
 have hm:∀b u,H b=some u->¬ Mut (some u)->b≠x:=fun b u q nm z=>by subst z;rw[q]at mu;exact nm mu
 refine⟨fun b u q n _ _=>k b u (hb b n) q,fun b u q n _ _=>⟨u.slots,k b u (hb b n) q⟩,fun b u q n _=>by rw[zw (hx b n)];exact n,fun b u q _=>?_,
   fun b xs q=>by rw[zw (hm b _ q fun z=>z)];exact q,fun b u xs q=>by rw[zw (hm b _ q fun z=>z)];exact q,fun b ps q=>⟨#[],by rw[zw (hm b _ q fun z=>z),q];simp⟩⟩
 by_cases hbe:b=e
 · subst hbe;exact heo
 · exact⟨u,k b u hbe q⟩
end
def trk(h:Heap)(H:Hp):List Addr:=(List.range h.objs.size).filter fun a=>(H a).isSome
def zpi(h:Heap)(H:Hp):Heap:=PySem.W.hideAll h (trk h H)
theorem zms(h:Heap)(H:Hp):(zpi h H).objs.size=h.objs.size:=PySem.W.hideAll_size _ _
theorem zph{h:Heap}{H:Hp}{b:Addr}{o:Obj}(e:h.get? b=some o)(n:H b=none):(zpi h H).get? b=some o :=
 PySem.W.hideAll_get _ e fun hm=>by have q:(H b).isSome=true:=(List.mem_filter.mp hm).2;rw[n]at q;simp at q
theorem zs3{h:Heap}{H:Hp}{b:Addr}{o:Obj}(e:(zpi h H).get? b=some o):h.get? b=some o/\H b=none:=by
 have e':h.get? b=some o:=PySem.W.of_hideAll (trk h H) e;refine⟨e',?_⟩;cases q:H b with
 |none=>rfl
 | some x=>
   have hm:b∈trk h H:=List.mem_filter.mpr ⟨List.mem_range.mpr (z2c e'),by simp[q]⟩;have z:(zpi h H).get? b=none:=PySem.W.hideAll_none (trk h H) hm;rw[z]at e;cases e
def zt9(g h:Heap)(L:Addr):zAO:=(List.range h.objs.size).filterMap fun a=>if a=L\/(g.get? a).isSome=true then none else (h.get? a).map fun o=>(a,o)
def rest(g h:Heap)(L d:Addr):zAO:=(zt9 g h L).filter fun p=>decide (p.1≠d)
structure Mod (K:zFr) (mg:zMg) (base:Heap):Prop where
 kin:K.In base
 glob:base.Ns mainGlobals mg
 blt:∃mb,base.Ns builtinsNs mb/\∀x:Str,x≠"__name__"->mb x=bootBuiltins x
 nolimit:base.NoLimit
structure Cx where
 prog:Program
 w:World
 K:zFr
 mg:zMg
 base:Heap
 A:Around
 N:List Str
 s₀:Shared
 H₀:Hp
 env:Env
 outer:List Env
 stack:List Env
 ex:List Addr
 fn:Str->Bool
 calm:Bool
 pn:zAO
 xe:zVP
def frs(l:List Env):List Addr:=l.filterMap (·.frame)
abbrev Cx.fs(X:Cx):List Addr:=frs X.outer
def Vis(sc:Scope)(x:Str):Prop:=sc.names.lookup x=some .local\/sc.names.lookup x=some .cell\/sc.names.lookup x=some .free
def Loc(sc:Scope)(x:Str):Prop:=sc.names.lookup x=some .local\/sc.names.lookup x=some .cell
def z1x(env:Env)(h:Heap)(m:zMg)(x:Str)(u:Value):Prop :=
 (env.kindOf x=some .local/\m x=some u)\/((env.kindOf x=some .cell\/env.kindOf x=some .free)/\∃c,env.cells.lookup x=some c/\h.IsCell c (some u))
structure Cx.Ok (X:Cx):Prop where
 mod:Mod X.K X.mg X.base
 kind:X.env.scope.kind=.function
 glob:X.env.globals=mainGlobals
 blt:X.env.builtins=builtinsNs
 above:X.s₀.heap.objs.size<=X.env.locals
 inj:∀x y c,X.env.cells.lookup x=some c->X.env.cells.lookup y=some c->x=y
 has:∀x,(X.env.kindOf x=some .cell\/X.env.kindOf x=some .free)->∃c,X.env.cells.lookup x=some c
 cab:∀x c,X.fn x=true->X.env.cells.lookup x=some c->X.s₀.heap.objs.size<=c
 hd:X.calm=true->X.A.handled=none
 frames:X.A.frames=some X.stack
 stk:X.stack=X.outer\/(X.stack=X.env::X.outer/\X.env.frame=some X.env.locals)
 exf:∀b∈X.ex,b≠X.env.locals/\∀x c,X.env.cells.lookup x=some c->c≠b
 bs:∀b o,X.base.get? b=some o->X.s₀.heap.get? b=some o/\X.H₀ b=none
 bsz:X.base.objs.size<=X.s₀.heap.objs.size
 noex:∀b o,X.base.get? b=some o->b∉X.ex
 exfs:∀b∈X.ex,b∉X.fs
 funs:X.s₀.heap.FunFrames X.base X.outer
 frf:∀b∈X.fs,X.H₀ b=none
structure Inv (X:Cx) (pins:zAO) (σ:List (Option V)) (H:Hp) (s:Shared):Prop where
 ok:X.Ok
 os:s.os=X.s₀.os
 bare:AllBare s.gens
 base:Un X.fs X.ex X.H₀ H X.s₀.heap s.heap
 loc:∃m,s.heap.Ns X.env.locals m/\∀(i:Nat) (x:Str) (v:V),X.N[i]? = some x->σ[i]? = some (some v)->Vis X.env.scope x->∃u,RelV v u/\z1x X.env s.heap m x u
 cell:∀x c,X.env.cells.lookup x=some c->∃v,s.heap.IsCell c v
 free:H X.env.locals=none
 freeC:∀x c,X.env.cells.lookup x=some c->H c=none
 pin:∀p∈X.pn++pins,s.heap.get? p.1=some p.2/\H p.1=none/\p.1≠X.env.locals/\p.1∉X.fs/\∀v,p.2.data≠.cell v
 hok:HOk X.prog X.w H s.heap
 len:σ.length=X.N.length
section
variable {X:Cx}{pins:zAO}{σ:List (Option V)}{H H':Hp}{s:Shared}{h':Heap}
theorem Cx.Ok.nofr(ok:X.Ok){b:Addr}{o:Obj}(e:X.base.get? b=some o):b∉X.fs:=fun hb=>by have:=(ok.funs.mem hb).1;rw[e]at this;cases this
theorem Inv.bs(I:Inv X pins σ H s):∀b o,X.base.get? b=some o->s.heap.get? b=some o/\H b=none:=fun b o e=>
 ⟨I.base.keep b o (I.ok.bs b o e).1 (I.ok.bs b o e).2 (I.ok.nofr e) (I.ok.noex b o e),I.base.free b o (I.ok.bs b o e).1 (I.ok.bs b o e).2 (I.ok.noex b o e)⟩
theorem Inv.bk(I:Inv X pins σ H s):∀b o,X.base.get? b=some o->s.heap.get? b=some o:=fun b o e=>(I.bs b o e).1
theorem Inv.mod(I:Inv X pins σ H s):Mod X.K X.mg X.base:=I.ok.mod
theorem Inv.kIn(I:Inv X pins σ H s):X.K.In s.heap:=I.ok.mod.kin.keeps I.bk
theorem Inv.lt(I:Inv X pins σ H s):X.env.locals<s.heap.objs.size:=let⟨_,hn,_⟩:=I.loc;hn.lt
theorem Inv.sz(I:Inv X pins σ H s):X.s₀.heap.objs.size<=s.heap.objs.size:=z2h I.ok.above (z3u I.lt)
theorem Inv.nofs(I:Inv X pins σ H s){a:Addr}(h:s.heap.objs.size<=a):a∉X.fs:=fun hb=>by obtain⟨_,o,ho,_⟩:=I.ok.funs.mem hb;exact absurd (z18 (z2c ho) (z2h I.sz h)) (z3n _)
theorem Inv.cne(I:Inv X pins σ H s):∀x c,X.env.cells.lookup x=some c->c≠X.env.locals:=fun x c e z=>by obtain⟨v,o,ho,hd⟩:=I.cell x c e;obtain⟨m,⟨o',es,ep,ho',hd',_⟩,_⟩:=I.loc;rw[z,ho']at ho;cases ho;rw[hd']at hd;cases hd
theorem Inv.funs(I:Inv X pins σ H s):s.heap.FunFrames X.base X.outer:=by
 have all:∀(l:List Env),(∀b∈frs l,b∈X.fs)->X.s₀.heap.FunFrames X.base l->s.heap.FunFrames X.base l:=by
   intro l
   induction l with
   |nil=>intro _ _;trivial
   | cons env r ih=>
     intro hs hl;obtain⟨hk,⟨L,o,hf,hn,ho,hd⟩,hr⟩:=hl;have hL:L∈X.fs:=hs L (by unfold frs;rw[List.filterMap_cons,hf];exact z2z);obtain⟨sl,e⟩:=I.base.slot L o ho (I.ok.frf L hL) hL fun z=>I.ok.exfs L z hL;exact⟨hk,⟨L,_,hf,hn,e,hd⟩,ih (fun b hb=>hs b (by unfold frs;rw[List.filterMap_cons,hf];exact z2e _ hb)) hr⟩
 exact all X.outer (fun _ hb=>hb) I.ok.funs
theorem Inv.stack(I:Inv X pins σ H s):s.heap.FunFrames X.base X.stack:=by
 rcases I.ok.stk with e | ⟨e,hf⟩
 · rw[e];exact I.funs
 · rw[e];obtain⟨m,hn,_⟩:=I.loc;refine .cons (by rw[I.ok.kind];decide) hf hn ?_ I.funs;exact z3j (z2h I.ok.bsz I.ok.above)
theorem Inv.stkSub(I:Inv X pins σ H s):∀b∈frs X.stack,b∈X.env.locals::X.fs:=fun b hb=>by
 rcases I.ok.stk with e | ⟨e,hf⟩
 · rw[e]at hb;exact z2e _ hb
 · rw[e]at hb;unfold frs at hb;rw[List.filterMap_cons,hf]at hb;exact hb
theorem Inv.stkFree(I:Inv X pins σ H s):∀b∈frs X.stack,H b=none:=fun b hb=>by
 rcases z2l.mp (I.stkSub b hb)with e | hb
 · rw[e];exact I.free
 · obtain⟨_,o,ho,_⟩:=I.ok.funs.mem hb;exact I.base.free b o ho (I.ok.frf b hb) fun z=>I.ok.exfs b z hb
theorem Inv.step{g':Array GenState}{t':Nat}{d':Drawn}{ch:List Addr}(I:Inv X pins σ H s)
   (hch:∀b∈ch,(b∈X.ex\/X.s₀.heap.objs.size<=b)/\b≠X.env.locals/\(∀x c,X.env.cells.lookup x=some c->c≠b)/\∀p∈X.pn++pins,p.1≠b)
   (keep:∀b o,b≠X.env.locals->b∉X.fs->b∉ch->s.heap.get? b=some o->H b=none->h'.get? b=some o)
   (slot:∀b o,b≠X.env.locals->b∈X.fs->b∉ch->s.heap.get? b=some o->H b=none->∃sl,h'.get? b=some { o with slots:=sl }) (free:∀b o,b∉ch->s.heap.get? b=some o->H b=none->H' b=none)
   (there:∀b o,b∉ch->s.heap.get? b=some o->∃o',h'.get? b=some o')
   (tups:∀b xs,H b=some (.tup xs)->H' b=some (.tup xs)) (frzs:∀b o u,H b=some (.frz o u)->H' b=some (.frz o u)) (tbls:∀b ps,H b=some (.tbl ps)->∃more,H' b=some (.tbl (ps++more)))
   (ns:∀m,s.heap.Ns X.env.locals m->h'.Ns X.env.locals m) (hok:HOk X.prog X.w H' h') (hg:AllBare g') :
   Inv X pins σ H' { s with heap:=h',gens:=g',drawn:=d',toks:=t' }:=by
 have neL:∀b o,X.s₀.heap.get? b=some o->b≠X.env.locals:=fun b o e=>z2f (z18 (z2c e) I.ok.above);have neC:∀b o,X.s₀.heap.get? b=some o->b∉X.ex->b∉ch:=fun b o e hx hb=>by
   rcases(hch b hb).1 with z | z
   · exact hx z
   · exact absurd (z18 (z2c e) z) (z3n _)
 have cellK:∀x c,X.env.cells.lookup x=some c->∀v,s.heap.IsCell c v->h'.IsCell c v:=fun x c e v ⟨o,ho,hd⟩=>by
   have nch:c∉ch:=fun z=>(hch c z).2.2.1 x c e rfl;by_cases hc:c∈X.fs
   · obtain⟨sl,q⟩:=slot c o (I.cne x c e) hc nch ho (I.freeC x c e);exact⟨_,q,hd⟩
   · exact⟨o,keep c o (I.cne x c e) hc nch ho (I.freeC x c e),hd⟩
 refine⟨I.ok,I.os,hg,⟨fun b o e n hb hx=>?_,fun b o e n hb hx=>?_,fun b o e n hx=>?_,fun b o e hx=>?_,fun b xs e=>tups b xs (I.base.tups b xs e),fun b o xs e=>frzs b o xs (I.base.frzs b o xs e),fun b ps e=>?_⟩,?_,fun x c e=>?_,?_,fun x c e=>?_,fun p hp=>?_,hok,I.len⟩
 · exact keep b o (neL b o e) hb (neC b o e hx) (I.base.keep b o e n hb hx) (I.base.free b o e n hx)
 · obtain⟨sl,e1⟩:=I.base.slot b o e n hb hx;obtain⟨sl',e2⟩:=slot b _ (neL b o e) hb (neC b o e hx) e1 (I.base.free b o e n hx);exact⟨sl',e2⟩
 · obtain⟨o',e1⟩:=I.base.there b o e hx;exact free b o' (neC b o e hx) e1 (I.base.free b o e n hx)
 · obtain⟨o',e1⟩:=I.base.there b o e hx;exact there b o' (neC b o e hx) e1
 · obtain⟨m1,e1⟩:=I.base.tbls b ps e;obtain⟨m2,e2⟩:=tbls b _ e1;exact⟨m1++m2,by rw[e2,Array.append_assoc]⟩
 · obtain⟨m,hn,hl⟩:=I.loc;refine⟨m,ns m hn,fun i x v e1 e2 e3=>?_⟩;obtain⟨u,r,l⟩:=hl i x v e1 e2 e3;refine⟨u,r,?_⟩;rcases l with l | ⟨k,c,e,z⟩
   · exact .inl l
   · exact .inr ⟨k,c,e,cellK x c e _ z⟩
 · obtain⟨v,z⟩:=I.cell x c e;exact⟨v,cellK x c e v z⟩
 · obtain⟨m,⟨o,_,_,ho,_⟩,_⟩:=I.loc;exact free _ o (fun z=>(hch _ z).2.1 rfl) ho I.free
 · obtain⟨v,o,ho,hd⟩:=I.cell x c e;exact free c o (fun z=>(hch c z).2.2.1 x c e rfl) ho (I.freeC x c e)
 · obtain⟨e,n,ne,nf,d⟩:=I.pin p hp;have nch:p.1∉ch:=fun z=>(hch p.1 z).2.2.2 p hp rfl;exact⟨keep p.1 p.2 ne nf nch e n,free p.1 p.2 nch e n,ne,nf,d⟩
theorem Inv.un{t':Nat}(I:Inv X pins σ H s)(u:Un X.fs [] H H' s.heap h')(hok:HOk X.prog X.w H' h'):Inv X pins σ H' { s with heap:=h',toks:=t' }:=by
 obtain⟨m,⟨o,es,ep,ho,r⟩,_⟩:=id I.loc;obtain⟨sl,hL⟩:=u.any ho I.free (by simp);exact I.step (g':=s.gens) (d':=s.drawn) (ch:=[]) (fun _ z=>nomatch z) (fun b o _ hb _ e n=>u.keep b o e n hb (by simp)) (fun b o _ hb _ e n=>u.slot b o e n hb (by simp)) (fun b o _ e n=>u.free b o e n (by simp)) (fun b o _ e=>u.there b o e (by simp)) u.tups u.frzs u.tbls (fun m' hm=>by
   obtain⟨o',es',ep',ho',r'⟩:=hm;rw[ho]at ho';cases ho';exact⟨_,es',ep',hL,r'⟩) hok I.bare
theorem Inv.call{g':Array GenState}{t':Nat}{d':Drawn}{ch:List Addr}(I:Inv X pins σ H s)(u:Un (frs X.stack) ch H H' s.heap h')(hok:HOk X.prog X.w H' h')(hg:AllBare g')
   (hch:∀b∈ch,(b∈X.ex\/X.s₀.heap.objs.size<=b)/\b≠X.env.locals/\(∀x c,X.env.cells.lookup x=some c->c≠b)/\∀p∈X.pn++pins,p.1≠b) :
   Inv X pins σ H' { s with heap:=h',gens:=g',drawn:=d',toks:=t' }:=by
 obtain⟨m,⟨o,es,ep,ho,r⟩,_⟩:=id I.loc;obtain⟨sl,hL⟩:=u.any ho I.free fun z=>(hch _ z).2.1 rfl;exact I.step (ch:=ch) hch (fun b o hL hb hc e n=>u.keep b o e n (fun z=>(z2l.mp (I.stkSub b z)).elim hL hb) hc) (fun b o _ _ hc e n=>u.any e n hc) (fun b o hc e n=>u.free b o e n hc) (fun b o hc e=>u.there b o e hc) u.tups u.frzs u.tbls (fun m' hm=>by
   obtain⟨o',es',ep',ho',r'⟩:=hm;rw[ho]at ho';cases ho';exact⟨_,es',ep',hL,r'⟩) hok hg
theorem Inv.turned{t':Nat}{it:Addr}(I:Inv X pins σ H s)(k:∀b o,b≠it->s.heap.get? b=some o->h'.get? b=some o)(hn:H it=none)(hL:it≠X.env.locals)
   (h1:it∈X.ex\/X.s₀.heap.objs.size<=it) (h2:∀x c,X.env.cells.lookup x=some c->c≠it) (h3:∀p∈X.pn++pins,p.1≠it):Inv X pins σ H { s with heap:=h',toks:=t' }:=by
 have nit:∀b u,H b=some u->b≠it:=fun b u e z=>by rw[z,hn]at e;cases e
 refine I.step (g':=s.gens) (d':=s.drawn) (ch:=[it]) (fun b hb=>?_) (fun b o _ _ hc e _=>k b o (fun z=>hc (by simp[z])) e) (fun b o _ _ hc e _=>⟨o.slots,k b o (fun z=>hc (by simp[z])) e⟩) (fun _ _ _ _ n=>n)
   (fun b o hc e=>⟨o,k b o (fun z=>hc (by simp[z])) e⟩) (fun _ _ e=>e) (fun _ _ _ e=>e) (fun b ps e=>⟨#[],by rw[e];simp⟩) (fun m hm=>?_) (fun b u e=>?_) I.bare
 · have e:b=it:=by simpa using hb
   subst e;exact⟨h1,hL,h2,h3⟩
 · obtain⟨o,es,ep,ho,r⟩:=hm;exact⟨o,es,ep,k _ o (z26 hL) ho,r⟩
 · refine(I.hok b u e).stay (fun c v hc q=>k c v ?_ q) (fun _ q=>q) fun _ _ q=>q;rcases hc with z | z
   · rw[z];exact nit b u e
   · exact nit c _ z
theorem Inv.tok(I:Inv X pins σ H s)(t:Nat):Inv X pins σ H { s with toks:=t }:=I.un (h':=s.heap) (t':=t) Un.refl I.hok
theorem Inv.kept{t':Nat}(I:Inv X pins σ H s)(k:∀b u,s.heap.get? b=some u->h'.get? b=some u):Inv X pins σ H { s with heap:=h',toks:=t' }:=I.un (Un.kept k) (I.hok.kept k)
theorem Inv.laid{a:Addr}{o:HO}{t':Nat}(I:Inv X pins σ H s)(k:∀b u,s.heap.get? b=some u->h'.get? b=some u)(hp:s.heap.objs.size<=a)(new:ObjOk X.prog X.w (upd H a o) h' a o) :
   Inv X pins σ (upd H a o) { s with heap:=h',toks:=t' }:=I.un (Un.laid k hp (I.hok.fresh hp)) (I.hok.laid k hp new)
theorem Inv.write{x e:Addr}{o:HO}{t':Nat}(I:Inv X pins σ H s)(mu:Mut (H x))(he:e=x\/H e=some (.own x))(k:∀b u,b≠e->s.heap.get? b=some u->h'.get? b=some u)(heo:∃u,h'.get? e=some u)
   (new:ObjOk X.prog X.w (upd H x o) h' x o):Inv X pins σ (upd H x o) { s with heap:=h',toks:=t' }:=I.un (Un.write mu he k heo) (I.hok.write mu he k heo new)
theorem Inv.pins_of{pins':zAO}(I:Inv X pins σ H s)(h:∀p∈pins',s.heap.get? p.1=some p.2/\H p.1=none/\p.1≠X.env.locals/\p.1∉X.fs/\∀v,p.2.data≠.cell v):Inv X pins' σ H s :=
 ⟨I.ok,I.os,I.bare,I.base,I.loc,I.cell,I.free,I.freeC,fun p hp=>(z32.mp hp).elim (fun z=>I.pin p (z4b _ z)) (h p),I.hok,I.len⟩
theorem zfb{N:List Str}(hN:N.Nodup){i j:Nat}{x:Str}(a:N[i]? = some x)(b:N[j]? = some x):i=j:=by obtain⟨h1,e1⟩:=z15.mp a;obtain⟨h2,e2⟩:=z15.mp b;exact(List.getElem_inj hN).mp (e1.trans e2.symm)
theorem zgc{M:Model}{A:Around}{E:zVP}{i:Nat}{x:Str}{v:V}{u:Value}{Q:Unit->Shared->Prop}(I:Inv X pins σ H s)(hN:X.N.Nodup)(hi:X.N[i]? = some x)(hx:Loc X.env.scope x)(r:RelV v u)
   (h:∀s',Inv X pins (σ.set i (some v)) H s'->(∃a,Heap.SameBut a s.heap s'.heap/\(a=X.env.locals\/X.env.cells.lookup x=some a))->Q () s') (hf:X.fn x=true\/X.env.scope.names.lookup x=some .local:=by first | exact .inl rfl | exact .inr rfl | assumption):wpAny M A (storeName X.env x u) Q E s:=by
 obtain⟨m,hn,hl⟩:=id I.loc;have hcls:(X.env.scope.kind==.class||(X.env.scope.kind==.module&&X.env.locals != X.env.globals))=false:=by rw[I.ok.kind];rfl
 have hiσ:i<σ.length:=by rw[I.len];exact(z15.mp hi).1
 have cne:=I.cne;have tracked:∀{a:Addr}{h':Heap},(∃o,s.heap.get? a=some o/\H a=none)->Heap.SameBut a s.heap h'->HOk X.prog X.w H h':=fun {a h'} ha hs b ob e=>by
   obtain⟨_,_,hfree⟩:=ha;refine(I.hok b ob e).stay (fun c w' hc q=>(hs.2 c ?_).trans q) (fun _ q=>q) fun _ _ q=>q;rintro rfl;rcases hc with rfl | hc
   · rw[hfree]at e;cases e
   · rw[hfree]at hc;cases hc
 rcases hx with hk | hk
 · refine wpAny_storeName_local hk hn (fun h' hn' hs=>?_) hcls;obtain⟨oL,_,_,hoL,_⟩:=id hn;refine h _ ⟨I.ok,I.os,I.bare,⟨fun b o e n hb hx=>?_,fun b o e n hb hx=>?_,I.base.free,fun b o e hx=>?_,I.base.tups,I.base.frzs,I.base.tbls⟩,⟨_,hn',fun j y v' e1 e2 e3=>?_⟩,fun y c e=>?_,I.free,I.freeC,fun p hp=>?_,tracked ⟨oL,hoL,I.free⟩ hs,by simpa using I.len⟩ ⟨_,hs,.inl rfl⟩
   · exact(hs.2 b (z2f (z18 (z2c e) I.ok.above))).trans (I.base.keep b o e n hb hx)
   · obtain⟨sl,e1⟩:=I.base.slot b o e n hb hx;exact⟨sl,(hs.2 b (z2f (z18 (z2c e) I.ok.above))).trans e1⟩
   · obtain⟨o',e1⟩:=I.base.there b o e hx;exact⟨o',(hs.2 b (z2f (z18 (z2c e) I.ok.above))).trans e1⟩
   · by_cases hj:j=i
     · subst hj;rw[hi]at e1;cases e1;rw[z2r hiσ]at e2;cases e2;exact⟨u,r,.inl ⟨hk,by simp⟩⟩
     · rw[z23 (z26 hj)]at e2;obtain⟨u',r',q⟩:=hl j y v' e1 e2 e3;refine⟨u',r',?_⟩;rcases q with⟨k,e⟩ | ⟨k,c,e,z⟩
       · refine .inl ⟨k,?_⟩;have:y≠x:=fun e=>hj (zfb hN e1 (e▸hi));simp[this,e]
       · exact .inr ⟨k,c,e,z.sameBut hs (cne y c e)⟩
   · obtain⟨w',z⟩:=I.cell y c e;exact⟨w',z.sameBut hs (cne y c e)⟩
   · obtain⟨e,n,ne,nf,d⟩:=I.pin p hp;exact⟨(hs.2 p.1 ne).trans e,n,ne,nf,d⟩
 · have hfn:X.fn x=true:=by
     rcases hf with z | z
     · exact z
     · rw[z]at hk;cases hk
   obtain⟨c,hc⟩:=I.ok.has x (.inl hk);obtain⟨w',z⟩:=I.cell x c hc;refine wpAny_storeName_cell I.ok.kind hk hc z (fun h' hc' hs=>?_);obtain⟨oc,hoc,hocd⟩:=id z;refine h { s with heap:=h' } ⟨I.ok,I.os,I.bare,⟨fun b o e n hb hx=>?_,fun b o e n hb hx=>?_,I.base.free,fun b o e hx=>?_,I.base.tups,I.base.frzs,I.base.tbls⟩,⟨m,hn.sameBut hs (z26 (cne x c hc)),fun j y v' e1 e2 e3=>?_⟩,fun y c' e=>?_,I.free,I.freeC,fun p hp=>?_,tracked ⟨oc,hoc,I.freeC x c hc⟩ hs,by simpa using I.len⟩ ⟨c,hs,.inr hc⟩
   · exact(hs.2 b (z2f (z18 (z2c e) (I.ok.cab x c hfn hc)))).trans (I.base.keep b o e n hb hx)
   · obtain⟨sl,e1⟩:=I.base.slot b o e n hb hx;exact⟨sl,(hs.2 b (z2f (z18 (z2c e) (I.ok.cab x c hfn hc)))).trans e1⟩
   · obtain⟨o',e1⟩:=I.base.there b o e hx;exact⟨o',(hs.2 b (z2f (z18 (z2c e) (I.ok.cab x c hfn hc)))).trans e1⟩
   · by_cases hj:j=i
     · subst hj;rw[hi]at e1;cases e1;rw[z2r hiσ]at e2;cases e2;exact⟨u,r,.inr ⟨.inl hk,c,hc,hc'⟩⟩
     · rw[z23 (z26 hj)]at e2;obtain⟨u',r',q⟩:=hl j y v' e1 e2 e3;refine⟨u',r',?_⟩;rcases q with q | ⟨k,c',e,z'⟩
       · exact .inl q
       · refine .inr ⟨k,c',e,z'.sameBut hs ?_⟩;rintro rfl;exact hj (zfb hN e1 (I.ok.inj _ _ _ e hc▸hi))
   · by_cases hcc:c'=c
     · subst hcc;exact⟨_,hc'⟩
     · obtain⟨w2,z2⟩:=I.cell y c' e;exact⟨w2,z2.sameBut hs hcc⟩
   · obtain⟨e,n,ne,nf,d⟩:=I.pin p hp;refine⟨(hs.2 p.1 ?_).trans e,n,ne,nf,d⟩;intro q;rw[q,hoc]at e;have q':oc=p.2:=z2n e;exact d w' (by rw[<-q'];exact hocd)
theorem zct{M:Model}{A:Around}{E:zVP}{i:Nat}{x:Str}{v:V}{u:Value}{Q:Unit->Shared->Prop}(I:Inv X pins σ H s)(hN:X.N.Nodup)(hi:X.N[i]? = some x)(hx:Loc X.env.scope x)(r:RelV v u)
   (h:∀s',Inv X pins (σ.set i (some v)) H s'->Q () s') (hf:X.fn x=true\/X.env.scope.names.lookup x=some .local:=by first | exact .inl rfl | exact .inr rfl | assumption):wpAny M A (storeName X.env x u) Q E s :=
 zgc I hN hi hx r (fun s' I' _=>h s' I') hf
theorem Inv.call'{s':Shared}{ch:List Addr}(I:Inv X pins σ H s)(ho:s'.os=s.os)(u:Un (frs X.stack) ch H H' s.heap s'.heap)(hok:HOk X.prog X.w H' s'.heap)(hg:AllBare s'.gens)
   (hch:∀b∈ch,(b∈X.ex\/X.s₀.heap.objs.size<=b)/\b≠X.env.locals/\(∀x c,X.env.cells.lookup x=some c->c≠b)/\∀p∈X.pn++pins,p.1≠b):Inv X pins σ H' s':=by
 obtain⟨h',g',d',t',o'⟩:=s';have e:o'=s.os:=ho;subst e;exact I.call (g':=g') (t':=t') (d':=d') u hok hg hch
end
abbrev XK:=Value->Option Addr->Hp->Prop
abbrev St:=List (Option V)
abbrev VK:=V->Hp->Prop
abbrev TE:=St->Hp->VK->Prop
abbrev TT:=St->Hp->(Bool->Hp->Prop)->Prop
abbrev TA:=St->Hp->(List V->Hp->Prop)->Prop
structure Ends where
 nx:St->Hp->Prop
 rt:VK
 bk:St->Hp->Prop:=fun _ _=>False
 ct:St->Hp->Prop:=fun _ _=>False
abbrev TS:=Ends->St->Hp->Prop
def EP(X:Cx)(pins:zAO)(σ:St)(Q:VK)(u:Value)(s':Shared):Prop:=∃v H',Inv X pins σ H' s'/\RelV v u/\Q v H'
def TP(X:Cx)(pins:zAO)(σ:St)(Q:Bool->Hp->Prop)(b:Bool)(s':Shared):Prop:=∃H',Inv X pins σ H' s'/\Q b H'
def AP(X:Cx)(pins:zAO)(σ:St)(Q:List V->Hp->Prop)(us:List Value)(s':Shared):Prop:=∃vs H',Inv X pins σ H' s'/\Vals vs us/\Q vs H'
def SP(X:Cx)(pins:zAO)(D:Ends)(f:Flow)(s':Shared):Prop :=
 match f with
 | .next=>∃σ' H',Inv X pins σ' H' s'/\D.nx σ' H'
 | .brk=>∃σ' H',Inv X pins σ' H' s'/\D.bk σ' H'
 | .cont=>∃σ' H',Inv X pins σ' H' s'/\D.ct σ' H'
 | .ret u=>∃v σ' H',Inv X pins σ' H' s'/\RelV v u/\D.rt v H'
def PE(X:Cx)(e:Expr)(t:TE):Prop :=
 ∀(pins:zAO) (s:Shared) (σ:St) (H:Hp) (Q:VK),Inv X pins σ H s->t σ H Q->wpAny (model X.prog X.w) X.A (eval e X.env) (EP X pins σ Q) X.xe s
def PT(X:Cx)(e:Expr)(t:TT):Prop :=
 ∀(pins:zAO) (s:Shared) (σ:St) (H:Hp) (Q:Bool->Hp->Prop),Inv X pins σ H s->t σ H Q->wpAny (model X.prog X.w) X.A (isTrue e X.env (eval e X.env)) (TP X pins σ Q) X.xe s
def PW(X:Cx)(e:Expr)(t:TT):Prop :=
 ∀(whole:Sem Value) (pins:zAO) (s:Shared) (σ:St) (H:Hp) (Q:Bool->Hp->Prop),Inv X pins σ H s->t σ H Q->wpAny (model X.prog X.w) X.A (isTrue e X.env whole) (TP X pins σ Q) X.xe s
theorem PW.pt{X:Cx}{e:Expr}{t:TT}(h:PW X e t):PT X e t:=h _
def PA(X:Cx)(es:List Expr)(t:TA):Prop :=
 ∀(pos:Pos) (pins:zAO) (s:Shared) (σ:St) (H:Hp) (Q:List V->Hp->Prop),Inv X pins σ H s->t σ H Q->wpAny (model X.prog X.w) X.A (spliced (backTo pos (starEach es X.env))) (AP X pins σ Q) X.xe s
def PS(X:Cx)(st:Stmt)(t:TS):Prop :=
 ∀(pins:zAO) (s:Shared) (σ:St) (H:Hp) (D:Ends),Inv X pins σ H s->t D σ H->wpAny (model X.prog X.w) X.A (exec st X.env) (SP X pins D) X.xe s
def PSs(X:Cx)(st:List Stmt)(t:TS):Prop :=
 ∀(pins:zAO) (s:Shared) (σ:St) (H:Hp) (D:Ends),Inv X pins σ H s->t D σ H->wpAny (model X.prog X.w) X.A (execs st X.env) (SP X pins D) X.xe s
theorem thn{α:Type}{t:Sem α}{Q Q':α->Shared->Prop}{M:Model}{A:Around}{E:zVP}{s:Shared}(h:wpAny M A t Q E s)(hQ:∀a s,Q a s->Q' a s):wpAny M A t Q' E s:=z43 h hQ fun _ _ x=>x
section
variable {X:Cx}
def z08(i:Nat):TE:=fun σ H Q=>∃v,σ[i]? = some (some v)/\Q v H
def tC(v:V):TE:=fun _ H Q=>Q v H
theorem zgm{i:Nat}{x:Str}{pos:Pos}(hN:X.N[i]? = some x)(hv:Vis X.env.scope x)(hd:(x==("__debug__":Str))=false:=by decide)(hcd:(x==("__classdict__":Str))=false:=by decide):PE X (.Name x pos) (z08 i):=by
 intro pins s σ H Q I h;obtain⟨v,e,h⟩:=h;obtain⟨m,hn,hl⟩:=I.loc;obtain⟨u,r,l⟩:=hl i x v hN e hv;have fin:EP X pins σ Q u s:=⟨v,H,I,r,h⟩
 rcases l with⟨hk,hm⟩ | ⟨hk,c,hc,hcell⟩
 · exact wpAny_Name (wpAny_loadName_local I.ok.kind hk hn hm fin) hd
 · rcases hk with hk | hk
   · exact wpAny_Name (wpAny_loadName_cell I.ok.kind hk hc hcell fin) hd
   · exact wpAny_Name (wpAny_loadName_free I.ok.kind hk hc hcell fin hcd) hd
theorem zv4{i j pos}:PE X (.Constant (.int i) j pos) (tC (.int i)):=fun _ _ _ H _ I h=>wpAny_Constant_int ⟨.int i,H,I.tok _,⟨_,rfl⟩,h⟩
theorem zzg{b j pos}:PE X (.Constant (.bool b) j pos) (tC (.bl b)):=fun _ _ _ H _ I h=>Constant_bool ⟨.bl b,H,I,rfl,h⟩
theorem zv3{j pos}:PE X (.Constant .none j pos) (tC .non):=fun _ _ _ H _ I h=>Constant_none ⟨.non,H,I,rfl,h⟩
theorem zv0{x j pos}:PE X (.Constant (.str x) j pos) (tC (.str x)):=fun _ _ _ H _ I h=>Calls.Constant_str ⟨.str x,H,I.tok _,⟨_,rfl⟩,h⟩
def Gl(X:Cx)(x:Str):Prop:=X.env.kindOf x=some .globalImplicit
theorem kn{E:zVP}{pins:zAO}{s:Shared}{σ:St}{H:Hp}{x:Str}{u:Value}{pos:Pos}{Q:zVP}(I:Inv X pins σ H s)(hg:Gl X x)(hm:X.mg x=some u)(h:Q u s)
   (hd:(x==("__debug__":Str))=false:=by decide):wpAny (model X.prog X.w) X.A (eval (.Name x pos) X.env) Q E s :=
 Calls.Name_function_global I.ok.kind hg (Calls.loadGlobal_global (by rw[I.ok.glob];exact I.mod.glob.keeps I.bk) hm h) hd
theorem zen{E:zVP}{pins:zAO}{s:Shared}{σ:St}{H:Hp}{x:Str}{u:Value}{pos:Pos}{Q:zVP}(I:Inv X pins σ H s)(hg:Gl X x)(hm:X.mg x=none)(hv:bootBuiltins x=some u)(h:Q u s)
   (hn:x≠"__name__":=by decide) (hd:(x==("__debug__":Str))=false:=by decide):wpAny (model X.prog X.w) X.A (eval (.Name x pos) X.env) Q E s:=by
 obtain⟨mb,h1,h2⟩:=I.mod.blt;exact Calls.Name_function_global I.ok.kind hg (Calls.loadGlobal_builtin (by rw[I.ok.glob];exact I.mod.glob.keeps I.bk) hm (by rw[I.ok.blt];exact h1.keeps I.bk) ((h2 x hn).trans hv) h) hd
theorem zly{x:Str}{v:V}{u:Value}{pos:Pos}(hg:Gl X x)(hm:X.mg x=some u)(r:RelV v u)(hd:(x==("__debug__":Str))=false:=by decide):PE X (.Name x pos) (tC v) :=
 fun _ _ _ H _ I h=>kn I hg hm ⟨v,H,I,r,h⟩ hd
theorem zsz{x:Str}{v:V}{u:Value}{pos:Pos}(hg:Gl X x)(hm:X.mg x=none)(hv:bootBuiltins x=some u)(r:RelV v u)(hn:x≠"__name__":=by decide)(hd:(x==("__debug__":Str))=false:=by decide):PE X (.Name x pos) (tC v) :=
 fun _ _ _ H _ I h=>zen I hg hm hv ⟨v,H,I,r,h⟩ hn hd
variable {a b:Expr}{ta tb:TE}{pos:Pos}
def tB(t:TE):TT:=fun σ H Q=>t σ H fun x H1=>∃c,x=.bl c/\Q c H1
theorem zvr{e:Expr}{t:TE}(h:PE X e t)(he:∀whole,isTrue e X.env whole=(do let v <-whole;standAt e.pos;holding [v] (truthy v)):=by intro _;rfl):PT X e (tB t):=by intro pins s σ H Q I hw;refine isTrue_plain (thn (h pins s σ H _ I hw) fun v s1 ⟨x,H1,I1,r1,q1⟩=>?_) (he _);obtain⟨d,rfl,q⟩:=q1;cases r1;exact z3f ⟨H1,I1,q⟩
variable {tA tB':TT}{rest:List Expr}
def z1i(t u:TT):TT:=fun σ H Q=>t σ H fun c H1=>if c=true then u σ H1 Q else Q false H1
def tOr(t u:TT):TT:=fun σ H Q=>t σ H fun c H1=>if c=true then Q true H1 else u σ H1 Q
def z1d(t:TT):TT:=fun σ H Q=>t σ H fun c H1=>Q (!c) H1
theorem zsm(ha:PT X a tA):PW X (.BoolOp .And [a] pos) tA:=by
 intro wh pins s σ H Q I h;refine isTrue_and (thn (ha pins s σ H Q I h) fun c s1 e=>?_);cases c with
 |true=>exact isTrue_and_nil e
 |false=>exact e
theorem zvm(ha:PT X a tA):PW X (.BoolOp .Or [a] pos) tA:=by
 intro wh pins s σ H Q I h;refine isTrue_or (thn (ha pins s σ H Q I h) fun c s1 e=>?_);cases c with
 |false=>exact isTrue_or_nil e
 |true=>exact e
theorem zvn(ha:PT X a tA)(hb:PW X (.BoolOp .And (b::rest) pos) tB'):PW X (.BoolOp .And (a::b::rest) pos) (z1i tA tB'):=by
 intro wh pins s σ H Q I h;refine isTrue_and (thn (ha pins s σ H _ I h) fun c s1 ⟨H1,I1,q1⟩=>?_);cases c with
 |true=>exact hb wh pins s1 σ H1 Q I1 q1
 |false=>exact⟨H1,I1,q1⟩
theorem zy4(ha:PT X a tA)(hb:PW X (.BoolOp .Or (b::rest) pos) tB'):PW X (.BoolOp .Or (a::b::rest) pos) (tOr tA tB'):=by
 intro wh pins s σ H Q I h;refine isTrue_or (thn (ha pins s σ H _ I h) fun c s1 ⟨H1,I1,q1⟩=>?_);cases c with
 |true=>exact⟨H1,I1,q1⟩
 |false=>exact hb wh pins s1 σ H1 Q I1 q1
theorem zvs(ha:PT X a tA):PT X (.UnaryOp .Not a pos) (z1d tA):=by intro pins s σ H Q I h;exact isTrue_not (ha pins s σ H (fun c H1=>Q (!c) H1) I h)
def zyv(ta tb:TE):TE:=fun σ H Q=>ta σ H fun x H1=>∃c,x=.bl c/\if c=true then tb σ H1 Q else Q (.bl false) H1
def zyq(ta:TE):TE:=fun σ H Q=>ta σ H fun x H1=>∃c,x=.bl c/\Q (.bl (!c)) H1
theorem zv1{op}{t:TE}(h:PE X a t):PE X (.BoolOp op [a] pos) t:=fun pins s σ H Q I hw=>BoolOp_one (h pins s σ H Q I hw)
theorem zv6(ha:PE X a ta)(hb:PE X (.BoolOp .And (b::rest) pos) tb):PE X (.BoolOp .And (a::b::rest) pos) (zyv ta tb):=by
 intro pins s σ H Q I h;refine BoolOp_and (thn (ha pins s σ H _ I h) fun v s1 ⟨x,H1,I1,r1,q1⟩=>?_);obtain⟨c,rfl,q1⟩:=q1;cases r1;refine z3f ?_;cases c with
 |true=>exact hb pins s1 σ H1 Q I1 q1
 |false=>exact⟨.bl false,H1,I1,rfl,q1⟩
theorem zv2(ha:PE X a ta):PE X (.UnaryOp .Not a pos) (zyq ta):=by intro pins s σ H Q I h;refine UnaryOp_ (thn (ha pins s σ H _ I h) fun v s1 ⟨x,H1,I1,r1,q1⟩=>?_);obtain⟨c,rfl,q1⟩:=q1;cases r1;exact not_of (z3f ⟨.bl (!c),H1,I1,rfl,q1⟩)
end
def SqL(K:zFr)(H:Hp)(a:Addr)(xs:List V):Prop :=
 Rd H a (.lst xs) \/
   ∃(o:Obj) (its:Array Value) (n:Nat),K.lookup a=some o/\o.cls=.type "list"/\o.dict=none/\o.data=.seq its n/\its.size<=sizeLine/\Vals xs its.toList
def SqT(K:zFr)(H:Hp)(a:Addr)(xs:List V):Prop :=
 Rd H a (.tup xs) \/
   ∃(o:Obj) (its:Array Value) (n:Nat),K.lookup a=some o/\o.cls=.type "tuple"/\o.data=.seq its n/\its.size<=sizeLine/\Vals xs its.toList
def z1w:Value->Option V
 | .none=>some .non
 | .bool b=>some (.bl b)
 | .int i _=>some (.int i)
 | .str x _=>some (.str x)
 | .bytes b _=>some (.byt b)
 | .float b _=>some (.flt b)
 | .ref a=>some (.ref a)
 | .type n=>some (.ty n)
 |_=>none
theorem RelV.abs{x:V}{u:Value}(r:RelV x u):z1w u=some x:=by
 cases x with
 |non=>cases r;rfl
 |bl _=>cases r;rfl
 |int _=>obtain⟨t,rfl⟩:=r;rfl
 |str _=>obtain⟨t,rfl⟩:=r;rfl
 |byt _=>obtain⟨t,rfl⟩:=r;rfl
 |flt _=>obtain⟨t,rfl⟩:=r;rfl
 |ref _=>cases r;rfl
 |ty _=>cases r;rfl
theorem RelV.inj{x y:V}{u:Value}(r:RelV x u)(q:RelV y u):x=y:=z2n (r.abs.symm.trans q.abs)
theorem Vals.inj:∀{xs ys:List V}{us:List Value},Vals xs us->Vals ys us->xs=ys
 |_,_,_,.nil,.nil=>rfl
 |_,_,_,.cons r t,.cons r' t'=>by rw[r.inj r',Vals.inj t t']
section
variable {X:Cx}{pins:zAO}{σ:St}{H:Hp}{s:Shared}{a:Addr}{xs ys:List V}
theorem SqL.of{K:zFr}(h:H a=some (.lst xs)):SqL K H a xs:=.inl (.inl h)
theorem Inv.list(I:Inv X pins σ H s)(h:SqL X.K H a xs):∃its:List Value,Vals xs its/\PlainL s.heap a its.toArray/\xs.length<=sizeLine:=by
 rcases h with h | ⟨o,its,n,hk,hc,hd,hs,hz,r⟩
 · obtain⟨z,its,n,r,e⟩:=h.ok I.hok;exact⟨its,r,⟨_,n,e,rfl,rfl,rfl⟩,z⟩
 · refine⟨its.toList,r,⟨o,n,I.kIn a o hk,hc,hd,by simpa using hs⟩,?_⟩;have e:=r.length;simp only[Array.length_toList]at e;omega
theorem Inv.tuple(I:Inv X pins σ H s)(h:SqT X.K H a xs):∃its:List Value,Vals xs its/\IsTup s.heap a its.toArray/\xs.length<=sizeLine:=by
 rcases h with h | ⟨o,its,n,hk,hc,hs,hz,r⟩
 · obtain⟨z,its,r,p⟩:=h.ok I.hok;exact⟨its,r,p,z⟩
 · refine⟨its.toList,r,⟨o,I.kIn a o hk,hc,n,by simpa using hs⟩,?_⟩;have e:=r.length;simp only[Array.length_toList]at e;omega
theorem Inv.list_inj(I:Inv X pins σ H s)(h:SqL X.K H a xs)(h':SqL X.K H a ys):xs=ys:=by
 obtain⟨its,r,⟨o,n,e,_,_,d⟩,_⟩:=I.list h;obtain⟨its',r',⟨o',n',e',_,_,d'⟩,_⟩:=I.list h';rw[e]at e';cases e';rw[d]at d';injection d' with d1 _;have:its=its':=by simpa using z30 Array.toList d1
 subst this;exact r.inj r'
theorem Inv.tuple_inj(I:Inv X pins σ H s)(h:SqT X.K H a xs)(h':SqT X.K H a ys):xs=ys:=by
 obtain⟨its,r,⟨o,e,_,n,d⟩,_⟩:=I.tuple h;obtain⟨its',r',⟨o',e',_,n',d'⟩,_⟩:=I.tuple h';rw[e]at e';cases e';rw[d]at d';injection d' with d1 _;have:its=its':=by simpa using z30 Array.toList d1
 subst this;exact r.inj r'
end
abbrev Cx.wish(X:Cx)(E:zVP):Cx:={ X with xe:=E }
abbrev Cx.nox(X:Cx):Cx:=X.wish fun _ _=>False
theorem Cx.Ok.wish{X:Cx}(ok:X.Ok)(E:zVP):(X.wish E).Ok :=
 ⟨ok.mod,ok.kind,ok.glob,ok.blt,ok.above,ok.inj,ok.has,ok.cab,ok.hd,ok.frames,ok.stk,ok.exf,ok.bs,ok.bsz,ok.noex,ok.exfs,ok.funs,ok.frf⟩
theorem Cx.Ok.unwish{X:Cx}{E:zVP}(ok:(X.wish E).Ok):X.Ok :=
 ⟨ok.mod,ok.kind,ok.glob,ok.blt,ok.above,ok.inj,ok.has,ok.cab,ok.hd,ok.frames,ok.stk,ok.exf,ok.bs,ok.bsz,ok.noex,ok.exfs,ok.funs,ok.frf⟩
section
variable {X:Cx}{pins:zAO}{σ:St}{H:Hp}{s:Shared}{E:zVP}
theorem Inv.wish(I:Inv X pins σ H s)(E:zVP):Inv (X.wish E) pins σ H s:=⟨I.ok.wish E,I.os,I.bare,I.base,I.loc,I.cell,I.free,I.freeC,I.pin,I.hok,I.len⟩
theorem Inv.unwish(I:Inv (X.wish E) pins σ H s):Inv X pins σ H s:=⟨I.ok.unwish,I.os,I.bare,I.base,I.loc,I.cell,I.free,I.freeC,I.pin,I.hok,I.len⟩
theorem SP.unwish{D:Ends}{f:Flow}{s':Shared}(h:SP (X.wish E) pins D f s'):SP X pins D f s':=by
 cases f with
 |next=>obtain⟨σ',H',I,q⟩:=h;exact⟨σ',H',I.unwish,q⟩
 |brk=>obtain⟨σ',H',I,q⟩:=h;exact⟨σ',H',I.unwish,q⟩
 |cont=>obtain⟨σ',H',I,q⟩:=h;exact⟨σ',H',I.unwish,q⟩
 |ret u=>obtain⟨v,σ',H',I,r,q⟩:=h;exact⟨v,σ',H',I.unwish,r,q⟩
theorem PSs.nox{st:List Stmt}{t:TS}(h:PSs X.nox st t):PSs X st t:=fun pins s σ H D I hw=>
 z43 (h pins s σ H D (I.wish _) hw) (fun _ _ q=>q.unwish) fun _ _ z=>False.elim z
end
section
variable {X:Cx}{st:Stmt}{rest:List Stmt}{t u:TS}{e:Expr}{te:TE}{pos:Pos}
def zys:TS:=fun D σ H=>D.nx σ H
def z1a(t u:TS):TS:=fun D σ H=>t { D with nx:=u D } σ H
theorem zsp:PSs X [] zys:=fun _ _ σ H _ I h=>z4l ⟨σ,H,I,h⟩
theorem zos(h1:PS X st t)(h2:PSs X rest u):PSs X (st::rest) (z1a t u):=by
 intro pins s σ H D I h;refine z3t (thn (h1 pins s σ H { D with nx:=u D } I h) fun f s1 q=>?_);cases f with
 | next=>
   obtain⟨σ',H',I',q⟩:=q;exact h2 pins s1 σ' H' D I' q
 |ret v=>exact q
 |brk=>exact q
 |cont=>exact q
theorem zso(h1:PS X st t):PSs X [st] t:=by
 intro pins s σ H D I h;refine z3t (thn (h1 pins s σ H D I h) fun f s1 q=>?_);cases f with
 |next=>exact z4l q
 |ret v=>exact q
 |brk=>exact q
 |cont=>exact q
theorem Inv.quiet{pins:zAO}{σ:St}{H:Hp}{s:Shared}(I:Inv X pins σ H s):interactive X.env=false:=by simp[interactive,I.ok.kind]
def zyt(te:TE):TS:=fun D σ H=>te σ H fun _ H1=>D.nx σ H1
theorem zlv(he:PE X e te)(hs:swapsWith e none pos.line X.env=pure false:=by rfl):PS X (.Expr e pos) (zyt te):=by intro pins s σ H D I h;exact wpAny_Expr_any (thn (he pins s σ H _ I h) fun v s1 ⟨x,H1,I1,r1,q1⟩=>⟨σ,H1,I1,q1⟩) I.quiet hs
def z1c(te:TE):TS:=fun D σ H=>te σ H D.rt
theorem zvu(he:PE X e te):PS X (.Return (some e) pos) (z1c te):=by intro pins s σ H D I h;exact wpAny_Return_some (thn (he pins s σ H _ I h) fun v s1 ⟨x,H1,I1,r1,q1⟩=>⟨x,σ,H1,I1,r1,q1⟩)
def zyn:TS:=fun D _ H=>D.rt .non H
theorem zsq:PS X (.Return none pos) zyn:=fun _ _ σ H _ I h=>wpAny_Return_none ⟨.non,σ,H,I,rfl,h⟩
def z1f(c:TT)(t u:TS):TS:=fun D σ H=>c σ H fun b H1=>if b=true then t D σ H1 else u D σ H1
theorem zzb{c:Expr}{a b:List Stmt}{tc:TT}(hc:PT X c tc)(ha:PSs X a t)(hb:PSs X b u):PS X (.If c a b pos) (z1f tc t u):=by
 intro pins s σ H D I h;refine wpAny_If (thn (hc pins s σ H _ I h) fun d s1 ⟨H1,I1,q1⟩=>?_);cases d with
 |true=>exact ha pins s1 σ H1 D I1 q1
 |false=>exact hb pins s1 σ H1 D I1 q1
def zuu:TS:=fun _ _ _=>False
theorem zot:PS X st zuu:=fun _ _ _ _ _ _ h=>h.elim
end
abbrev TG:=V->St->Hp->(St->Hp->Prop)->Prop
abbrev TGs:=List V->St->Hp->(St->Hp->Prop)->Prop
def PG(X:Cx)(target:Expr)(t:TG):Prop :=
 ∀(pins:zAO) (s:Shared) (σ:St) (H:Hp) (v:V) (u:Value) (Q:St->Hp->Prop),Inv X pins σ H s->RelV v u->t v σ H Q ->
   wpAny (model X.prog X.w) X.A (assign target X.env u) (fun _ s'=>∃σ' H',Inv X pins σ' H' s'/\Q σ' H') X.xe s
def PGs(X:Cx)(ts:List Expr)(t:TGs):Prop :=
 ∀(pins:zAO) (s:Shared) (σ:St) (H:Hp) (vs:List V) (us:List Value) (Q:St->Hp->Prop),Inv X pins σ H s->Vals vs us->t vs σ H Q ->
   wpAny (model X.prog X.w) X.A (assignInOrder ((assignEach ts X.env).map (·.2)) us) (fun _ s'=>∃σ' H',Inv X pins σ' H' s'/\Q σ' H') X.xe s
section
variable {X:Cx}{pos:Pos}
def zgt(i:Nat):TG:=fun v σ H Q=>Q (σ.set i (some v)) H
theorem ze8{i:Nat}{x:Str}(hN:X.N.Nodup)(hi:X.N[i]? = some x)(hx:Loc X.env.scope x)(hf:X.fn x=true\/X.env.scope.names.lookup x=some .local:=by first | exact .inl rfl | exact .inr rfl | assumption):PG X (.Name x pos) (zgt i):=by intro pins s σ H v u Q I r h;exact wpAny_assign_Name (zct I hN hi hx r (fun s' I'=>⟨_,H,I',h⟩) hf)
def z02:TGs:=fun vs σ H Q=>vs=[]/\Q σ H
def zpk(t:TG)(u:TGs):TGs:=fun vs σ H Q=>∃v r,vs=v::r/\t v σ H fun σ' H'=>u r σ' H' Q
theorem zsu:PGs X [] z02:=by intro pins s σ H vs us Q I r h;obtain⟨e,h⟩:=h;subst e;cases r;exact assignInOrder_nil ⟨σ,H,I,h⟩
theorem zow{e:Expr}{es:List Expr}{t:TG}{u:TGs}(h1:PG X e t)(h2:PGs X es u)
   (hs:(assignEach (e::es) X.env).map (·.2)=assign e X.env::(assignEach es X.env).map (·.2):=by rfl):PGs X (e::es) (zpk t u):=by
 intro pins s σ H vs us Q I r h;obtain⟨v,vr,e1,h⟩:=h;subst e1;cases r with
 | cons r rr=>
   rw[hs];refine assignInOrder_cons (thn (h1 pins s σ H _ _ _ I r h) fun _ s1 ⟨σ1,H1,I1,q1⟩=>?_);exact h2 pins s1 σ1 H1 _ _ Q I1 rr q1
def z1r(K:zFr)(n:Nat)(t:TGs):TG:=fun v σ H Q=>∃a xs,v=.ref a/\SqT K H a xs/\xs.length=n/\t xs σ H Q
theorem zvy{es:List Expr}{k:Nat}{t:TGs}{n:Nat}(hc:X.calm=true)(h:PGs X es t)
   (hn:(assignEach es X.env).length=n:=by rfl) (hst:(assignEach es X.env).findIdx? (·.1)=none:=by rfl):PG X (.Tuple es k pos) (z1r X.K n t):=by
 intro pins s σ H v u Q I r hw;obtain⟨a,xs,e1,hq,hl,hw⟩:=hw;subst e1;cases r;obtain⟨its,rv,ht,hz⟩:=I.tuple hq;refine assign_Tuple_tuple (I.ok.hd hc) ht (by simp[hn,<-hl,rv.length]) hst fun h' hx=>?_;have I1:Inv X pins σ H { s with heap:=h' }:=I.kept (t':=s.toks) fun b o e=>hx b o (z2f (z2c e)) e;exact h pins _ σ H xs _ Q I1 (by simpa using rv) hw
def z0p(te:TE)(g:TG):TS:=fun D σ H=>te σ H fun x H1=>g x σ H1 D.nx
theorem zvw{tg e:Expr}{te:TE}{g:TG}(he:PE X e te)(hg:PG X tg g)(hs:swapsWithSole [tg] e pos.line X.env=pure false:=by rfl)(hw:swappedStores [tg] e X.env=pure none:=by rfl)
   (h1:(assignEach [tg] X.env).map (·.2)=[assign tg X.env]:=by rfl):PS X (.Assign [tg] e pos) (z0p te g):=by
 intro pins s σ H D I h;refine wpAny_Assign_stores (thn (he pins s σ H _ I h) fun v s1 ⟨x,H1,I1,r1,q1⟩=>?_) hs hw;rw[h1];exact thn (hg pins s1 σ H1 x v _ I1 r1 q1) fun _ s2 q=>q
theorem zvt{i:Nat}{x:Str}{e:Expr}{te:TE}{pos':Pos}(hN:X.N.Nodup)(hi:X.N[i]? = some x)(hx:Loc X.env.scope x)(he:PE X e te)(hs:swapsWith e (some (.Name x pos')) pos.line X.env=pure false:=by rfl)(hf:X.fn x=true\/X.env.scope.names.lookup x=some .local:=by first | exact .inl rfl | exact .inr rfl | assumption) :
   PS X (.Assign [.Name x pos'] e pos) (z0p te (zgt i)):=by
 intro pins s σ H D I h;refine wpAny_Assign_Name (thn (he pins s σ H _ I h) fun v s1 ⟨y,H1,I1,r1,q1⟩=>?_) hs;exact zct I1 hN hi hx r1 (fun s2 I2=>⟨_,H1,I2,q1⟩) hf
end
structure It where
 go:Nat->Hp->Prop
 yld:Nat->Hp->V->Hp->Prop
 stop:Nat->Hp->Prop
def zrb(X:Cx)(pins:zAO)(H:Hp)(b:Addr):Prop :=
 H b=none/\b≠X.env.locals/\b∉X.fs/\(b∈X.ex\/X.s₀.heap.objs.size<=b)/\(∀x c,X.env.cells.lookup x=some c->c≠b)/\∀p∈X.pn++pins,p.1≠b
theorem Inv.fpOk{X:Cx}{pins:zAO}{σ:St}{H H':Hp}{s:Shared}{b:Addr}(I:Inv X pins σ H s)(hb:s.heap.objs.size<=b)(hn:H' b=none):zrb X pins H' b:=by
 refine⟨hn,z5d (z18 I.lt hb),I.nofs hb,.inr (z2h I.sz hb),fun x c e z=>?_,fun p hp z=>?_⟩
 · obtain⟨v,q⟩:=I.cell x c e;exact absurd (z18 q.lt (by rw[z];exact hb)) (z3n _)
 · exact absurd (z18 (z2c (I.pin p hp).1) (by rw[z];exact hb)) (z3n _)
structure Turn (P:Program) (w:World) (K:zFr) (tg:Expr) (J:It) (fp:List Addr) (it:Addr) (tn:Nat->Heap->Prop):Prop where
 mem:it∈fp
 obj:∀i h,tn i h->∀b∈fp,∃o,h.get? b=some o/\∀v,o.data≠.cell v
 keep:∀i h h',tn i h->(∀b∈fp,∀o,h.get? b=some o->h'.get? b=some o)->tn i h'
 item:∀(X:Cx),X.prog=P->X.w=w->X.K=K->X.calm=true->∀(i:Nat) (pins:zAO) (s:Shared) (σ:St) (H:Hp) (E:zVP),Inv X pins σ H s->(∀b∈fp,zrb X pins H b)->tn i s.heap->J.go i H ->
   wpAny (model P w) X.A (pyNext (.ref it)) (fun r s1=>∃u,r=some u /\
     wpAny (model P w) X.A (letOwnedTupleGo tg (.ref it) u) (fun _ s2=>∃x H',Inv X pins σ H' s2/\RelV x u/\J.yld i H x H'/\tn (i+1) s2.heap/\∀b∈fp,H' b=none) E s1) E s
 done:∀(X:Cx),X.prog=P->X.w=w->X.K=K->X.calm=true->∀(i:Nat) (pins:zAO) (s:Shared) (σ:St) (H:Hp) (E:zVP),Inv X pins σ H s->(∀b∈fp,zrb X pins H b)->tn i s.heap->J.stop i H ->
   wpAny (model P w) X.A (pyNext (.ref it)) (fun r s1=>r=none/\Inv X pins σ H s1) E s
 self:∀(A:Around) (i:Nat) (s:Shared) (Q:zVP) (E:zVP),tn i s.heap->Q (.ref it) s->wpAny (model P w) A (pyIter (.ref it)) Q E s
abbrev TI:=St->Hp->(It->Hp->Prop)->Prop
def PIE(X:Cx)(pins:zAO)(σ:St)(tg:Expr)(R:It->Hp->Prop)(itv:Value)(s2:Shared):Prop :=
 ∃(it:Addr) (fp:List Addr) (tn:Nat->Heap->Prop) (J:It) (H':Hp),itv=.ref it/\Inv X pins σ H' s2/\Turn X.prog X.w X.K tg J fp it tn/\tn 0 s2.heap/\(∀b∈fp,zrb X pins H' b)/\R J H'
def PI(X:Cx)(tg iter:Expr)(wi:TI):Prop :=
 ∀(pins:zAO) (s:Shared) (σ:St) (H:Hp) (R:It->Hp->Prop),Inv X pins σ H s->wi σ H R ->
   wpAny (model X.prog X.w) X.A (eval iter X.env) (fun v s1=>wpAny (model X.prog X.w) X.A (pyIter v) (PIE X pins σ tg R) X.xe s1) X.xe s
theorem zw2{M:Model}{A:Around}{E:zVP}{s:Shared}{tg:Expr}{it:Addr}{u:Value}{o:Obj}{n:String}{vs:Array Value}{Q:Unit->Shared->Prop}(ho:s.heap.get? it=some o)(hc:o.cls=.type n)(hd:o.data=.fields vs)
   (hn:["enumerate", "zip", "dict_itemiterator", "dict_reverseitemiterator", "odict_iterator", "itertools.zip_longest", "itertools.pairwise"].contains n=false) (hQ:Q () s):wpAny M A (letOwnedTupleGo tg (.ref it) u) Q E s:=by
 unfold letOwnedTupleGo;cases tg<;>first
   |exact z2a hQ
   | (cases u<;>first
       |exact z2a hQ
       | (refine z12 (wpAny_load ho ?_)
          rw[hc,hd];show wpAny M A (if(["enumerate", "zip", "dict_itemiterator", "dict_reverseitemiterator", "odict_iterator", "itertools.zip_longest", "itertools.pairwise"].contains n&&vs[0]?==some (rawInt _))=true then _ else _) Q E s;rw[z2w (by intro h;rw[hn,z5h]at h;cases h)];exact z2a hQ))
def Itl(K:zFr)(a:Addr):It :=
 ⟨fun i H=>∃xs x,SqL K H a xs/\xs[i]? = some x,fun i H x H'=>H'=H/\∀xs,SqL K H a xs->xs[i]? = some x,fun i H=>∃xs,SqL K H a xs/\xs.length<=i⟩
def Itr(lo:Int)(n:Nat):It:=⟨fun i _=>i<n,fun i H x H'=>H'=H/\x=.int (lo+i),fun i _=>n<=i⟩
theorem zkv{P:Program}{w:World}{K:zFr}{tg:Expr}(a it:Addr):Turn P w K tg (Itl K a) [it] it (fun i h=>h.IsListIter it a i) where
 mem:=by simp
 obj:=fun i h st b hb=>by
   have e:b=it:=by simpa using hb
   subst e;obtain⟨o,e,c,d⟩:=st;exact⟨o,e,fun v z=>by rw[d]at z;cases z⟩
 keep:=fun i h h' st k=>st.at fun o e=>k it (by simp) o e
 item:=by intro X hP hw hK hc i pins s σ H E I hf st hg;subst hP hw hK;obtain⟨xs,x,hq,hx⟩:=hg;obtain⟨its,rv,p,hz⟩:=I.list hq;obtain⟨u,hu,ru⟩:=rv.get hx;obtain⟨f0,f1,f2,f3,f4,f5⟩:=hf it (by simp);refine wpAny_pyNext_list_item st p.isList (x:=u) (by simpa using hu) fun h' st' sb=>?_;have I1:Inv X pins σ H { s with heap:=h' }:=I.turned (t':=s.toks) (fun b o hb e=>(sb.2 b hb).trans e) f0 f1 f3 f4 f5;obtain⟨o,e,c,d⟩:=id st';exact⟨u,rfl,zw2 (s:={ s with heap:=h' }) e c d (by decide) ⟨x,H,I1,ru,⟨rfl,fun ys hy=>by rw[I.list_inj hy hq];exact hx⟩,st',fun b hb=>(hf b hb).1⟩⟩
 done:=by intro X hP hw hK hc i pins s σ H E I hf st hg;subst hP hw hK;obtain⟨xs,hq,hx⟩:=hg;obtain⟨its,rv,p,hz⟩:=I.list hq;obtain⟨f0,f1,f2,f3,f4,f5⟩:=hf it (by simp);have hl:=rv.length;exact wpAny_pyNext_list_end (I.ok.hd hc) st p.isList (by simp;omega) fun h' eb=>⟨rfl,I.turned (t':=s.toks) (fun b o hb e=>eb b o hb e) f0 f1 f3 f4 f5⟩
 self:=fun _ _ _ _ _ st h=>wpAny_pyIter_listiter st h
theorem zjs{P:Program}{w:World}{K:zFr}{tg:Expr}(it:Addr)(lo:Int)(n:Nat):Turn P w K tg (Itr lo n) [it] it (fun i h=>IsRangeIter h it (lo+(i:Nat)*1) ((n:Int)-(i:Nat)) 1) where
 mem:=by simp
 obj:=fun i h st b hb=>by
   have e:b=it:=by simpa using hb
   subst e;exact⟨_,st,fun v z=>by
     have z':Data.fields _=Data.cell v:=z;cases z'⟩
 keep:=fun i h h' st k=>k it (by simp) _ st
 item:=by intro X hP hw hK hc i pins s σ H E I hf st hg;subst hP hw hK;obtain⟨f0,f1,f2,f3,f4,f5⟩:=hf it (by simp);have W:=Walks.range (prog:=X.prog) (w:=X.w) (I.ok.hd hc) it lo 1 n;refine W.item i s _ _ hg st fun v h' tk hv st' kk=>?_;obtain⟨t,rfl⟩:=hv;have I1:Inv X pins σ H { s with heap:=h',toks:=tk }:=I.turned (fun b o hb e=>kk b o (by simpa using hb) e) f0 f1 f3 f4 f5;refine⟨_,rfl,zw2 (s:={ s with heap:=h',toks:=tk }) (n:="range_iterator") st' rfl rfl (by decide) ⟨.int (lo+i),H,I1,⟨t,?_⟩,⟨rfl,rfl⟩,st',fun b hb=>(hf b hb).1⟩⟩;rw[Int.mul_one]
 done:=by intro X hP hw hK hc i pins s σ H E I hf st hg;subst hP hw hK;obtain⟨f0,f1,f2,f3,f4,f5⟩:=hf it (by simp);exact wpAny_pyNext_range_end (I.ok.hd hc) st (by have:n<=i:=hg;omega) fun h' eb=>⟨rfl,I.turned (t':=s.toks) (fun b o hb e=>eb b o hb e) f0 f1 f3 f4 f5⟩
 self:=fun _ _ _ _ _ st h=>wpAny_pyIter_rangeiter st h
section
variable {X:Cx}{tg:Expr}
def zzy(K:zFr)(tl:TE):TI:=fun σ H R=>tl σ H fun x H1=>∃a,x=.ref a/\(∃xs,SqL K H1 a xs)/\R (Itl K a) H1
theorem zst{l:Expr}{tl:TE}(hl:PE X l tl):PI X tg l (zzy X.K tl):=by
 intro pins s σ H R I h;refine thn (hl pins s σ H _ I h) fun v s1 ⟨x,H1,I1,r1,q1⟩=>?_;obtain⟨a,e,⟨xs,hq⟩,q⟩:=q1;subst e;cases r1;obtain⟨its,rv,p,hz⟩:=I1.list hq;refine wpAny_pyIter_list p.isList ?_;refine⟨s1.heap.objs.size,[s1.heap.objs.size],_,_,H1,rfl,I1.kept (t':=s1.toks) fun b o e=>z14 _ e,zkv a _,⟨_,z2q _ rfl,rfl,rfl⟩,fun b hb=>?_,q⟩;have e:b=s1.heap.objs.size:=by simpa using hb
 subst e;exact I1.fpOk (z16 _) (I1.hok.fresh (z16 _))
theorem zom{pins:zAO}{σ:St}{H:Hp}{s:Shared}{R:It->Hp->Prop}{E:zVP}{lo hi:Int}{t u v:Tok}{tk:Nat}(I:Inv X pins σ H s)(h1:-(2^62)<=lo)(h2:lo<2^62)(h3:-(2^62)<=hi)(h4:hi<2^62)
   (q:R (Itr lo (hi-lo).toNat) H):wpAny (model X.prog X.w) X.A (pyIter (.ref s.heap.objs.size)) (PIE X pins σ tg R) E { s with heap:=s.heap.push { cls:=.type "range",data:=.fields #[.int lo t,.int hi u,.int 1 v] },toks:=tk }:=by
 refine wpAny_pyIter_range (IsRange.new ..) (small_one h1 h2 h3 h4) ?_;have I1:Inv X pins σ H { s with heap:=s.heap.push { cls:=.type "range",data:=.fields #[.int lo t,.int hi u,.int 1 v] },toks:=tk }:=I.kept fun b o e=>z14 _ e;refine⟨(s.heap.push { cls:=.type "range",data:=.fields #[.int lo t,.int hi u,.int 1 v] }).objs.size,[(s.heap.push { cls:=.type "range",data:=.fields #[.int lo t,.int hi u,.int 1 v] }).objs.size],_,_,H,rfl,
   I1.kept (t':=tk) fun b o e=>z14 _ e,zjs _ lo (hi-lo).toNat,?_,fun b hb=>?_,q⟩
 · have e1:lo+((0:Nat):Int)*1=lo:=by simp
   have e2:(((hi-lo).toNat:Nat):Int)-((0:Nat):Int)=Builtin.Range.rangeSize lo hi 1:=by rw[rangeSize_one];split<;>omega
   show IsRangeIter _ _ (lo+((0:Nat):Int)*1) ((((hi-lo).toNat:Nat):Int)-((0:Nat):Int)) 1;rw[e1,e2];exact z2q _ rfl
 · have e:b=(s.heap.push { cls:=.type "range",data:=.fields #[.int lo t,.int hi u,.int 1 v] }).objs.size:=by simpa using hb
   subst e;exact I1.fpOk (z16 _) (I1.hok.fresh (z16 _))
def zzx(ta:TA):TI:=fun σ H R=>ta σ H fun vs H1=>∃j:Int,vs=[.int j]/\-(2^62)<=j/\j<2^62/\R (Itr 0 j.toNat) H1
theorem zgl{a:Expr}{ta:TA}{p pos:Pos}(hg:Gl X "range")(hm:X.mg "range"=none)(ha:PA X [a] ta)(hs:starEach [a] X.env=[(false,eval a X.env)]:=by rfl):PI X tg (.Call (.Name "range" p) [a] [] pos) (zzx ta):=by
 intro pins s σ H R I h;refine Call_ (zen I hg hm boot_range (z3v (thn (ha pos pins s σ H _ I h) fun us s1 ⟨vs,H1,I1,r1,q1⟩=>?_) hs rfl));obtain⟨j,e,q1,q2,q⟩:=q1;subst e;cases r1 with
 | cons r rr=>
   cases rr;obtain⟨t,rfl⟩:=r;exact call_range_1 (zom I1 (by omega) (by omega) q1 q2 (by simpa using q))
def z1g(wi:TI)(g:TG)(tb:TS):TS:=fun D σ H=>wi σ H fun J H1=>∃W:Nat->Nat->St->Hp->Prop,(∃m,W 0 m σ H1)/\∀i m σ H,W i m σ H ->
 (J.stop i H/\D.nx σ H)\/(J.go i H/\∃N:St->Hp->Prop,(∀σ' H',N σ' H'->∃m',m'<m/\W (i+1) m' σ' H')/\∀x H',J.yld i H x H'->g x σ H' fun σ2 H2=>tb { D with nx:=N,ct:=N,bk:=D.nx } σ2 H2)
def zi4(fp:List Addr)(h:Heap):zAO:=fp.filterMap fun b=>(h.get? b).map fun o=>(b,o)
theorem za7{fp:List Addr}{h:Heap}{b:Addr}{o:Obj}(hb:b∈fp)(e:h.get? b=some o):(b,o)∈zi4 fp h:=List.mem_filterMap.mpr ⟨b,hb,by rw[e];rfl⟩
theorem zl6{fp:List Addr}{h:Heap}{p:Addr×Obj}(hp:p∈zi4 fp h):p.1∈fp/\h.get? p.1=some p.2:=by
 obtain⟨b,hb,e⟩:=List.mem_filterMap.mp hp;cases q:h.get? b with
 |none=>rw[q]at e;cases e
 | some o=>
   rw[q]at e;have e':(b,o)=p:=z2n e;subst e';exact⟨hb,q⟩
theorem Inv.pinned{pins:zAO}{σ:St}{H:Hp}{s:Shared}{fp:List Addr}(I:Inv X pins σ H s)(hf:∀b∈fp,zrb X pins H b)(ho:∀b∈fp,∃o,s.heap.get? b=some o/\∀v,o.data≠.cell v):Inv X (pins++zi4 fp s.heap) σ H s :=
 I.pins_of fun p hp=>(z32.mp hp).elim (fun z=>I.pin p (z2i _ z)) fun z=>by obtain⟨hb,e⟩:=zl6 z;obtain⟨f0,f1,f2,_⟩:=hf p.1 hb;obtain⟨o,e',d⟩:=ho p.1 hb;rw[e]at e';cases e';exact⟨e,f0,f1,f2,d⟩
theorem Inv.unpinned{pins pl:zAO}{σ:St}{H:Hp}{s:Shared}(I:Inv X (pins++pl) σ H s):Inv X pins σ H s:=I.pins_of fun p hp=>I.pin p (z2i _ (z4b _ hp))
theorem zqh{iter:Expr}{body:List Stmt}{wi:TI}{g:TG}{tb:TS}{pos:Pos}(hp:PassesOwn (model X.prog X.w) X.A X.env X.xe)(hc:X.calm=true)(hi:PI X tg iter wi)(hg:PG X tg g)(hb:PSs X body tb)
   (hs:∀x,foldedSetIterable iter X.env x=pure x:=by intro _;rfl):PS X (.For tg iter body [] pos) (z1g wi g tb):=by
 intro pins s σ H D I h;refine wpAny_For (thn (hi pins s σ H _ I h) fun v s1 h1=>thn h1 fun itv s2 h2=>?_) hs;obtain⟨it,fp,tn,J,H2,e,I2,T,st2,f2,W,⟨m0,w0⟩,turn⟩:=h2;subst e;have stat:∀{H':Hp},(∀b∈fp,H' b=none)->∀b∈fp,zrb X pins H' b:=fun hn b hb=>⟨hn b hb,(f2 b hb).2⟩
 refine codeAny_forLoop_any (fun n s'=>∃i σ' H',Inv X pins σ' H' s'/\tn i s'.heap/\(∀b∈fp,H' b=none)/\W i n σ' H') ?_ m0 ⟨0,σ,H2,I2,st2,fun b hb=>(f2 b hb).1,w0⟩;rintro n s3 ⟨i,σ3,H3,I3,st3,fr3,w3⟩;rcases turn i n σ3 H3 w3 with⟨stop,qn⟩ | ⟨go,N,hN,step⟩
 · refine z4m hp (thn (T.done X rfl rfl rfl hc i pins s3 σ3 H3 X.xe I3 (stat fr3) st3 stop) fun r s4 ⟨hr,I4⟩=>?_);subst hr;exact z4l ⟨σ3,H3,I4,qn⟩
 · refine z4m hp (thn (T.item X rfl rfl rfl hc i pins s3 σ3 H3 X.xe I3 (stat fr3) st3 go) fun r s4 ⟨u,hr,h4⟩=>?_);subst hr;refine z4m hp (thn h4 fun _ s5 ⟨x,H5,I5,r5,y5,st5,fr5⟩=>?_);have I5':=I5.pinned (stat fr5) (T.obj _ _ st5);refine z4m hp (thn (hg _ s5 σ3 H5 x u _ I5' r5 (step x H5 y5)) fun _ s6 ⟨σ6,H6,I6,q6⟩=>?_);refine z4m hp (thn (hb _ s6 σ6 H6 _ I6 q6) fun f s7 q7=>?_);have again:∀{σ7:St}{H7:Hp},Inv X (pins++zi4 fp s5.heap) σ7 H7 s7->N σ7 H7->∃m,m<n/\∃i σ' H',Inv X pins σ' H' s7/\tn i s7.heap/\(∀b∈fp,H' b=none)/\W i m σ' H':=fun {σ7 H7} I7 n7=>by obtain⟨m',hm,w7⟩:=hN σ7 H7 n7;refine⟨m',hm,i+1,σ7,H7,I7.unpinned,T.keep _ _ _ st5 fun b hb o e=>(I7.pin (b,o) (z2i _ (z2i _ (za7 hb e)))).1,fun b hb=>?_,w7⟩;obtain⟨o,e,d⟩:=T.obj _ _ st5 b hb;exact(I7.pin (b,o) (z2i _ (z2i _ (za7 hb e)))).2.1
   cases f with
   |next=>obtain⟨σ7,H7,I7,n7⟩:=q7;exact again I7 n7
   |cont=>obtain⟨σ7,H7,I7,n7⟩:=q7;exact again I7 n7
   |brk=>obtain⟨σ7,H7,I7,q7⟩:=q7;exact⟨σ7,H7,I7.unpinned,q7⟩
   |ret v=>obtain⟨x7,σ7,H7,I7,r7,q7⟩:=q7;exact⟨x7,σ7,H7,I7.unpinned,r7,q7⟩
end
theorem zpl{K:zFr}{a:Addr}{xs:List V}{g:TG}{tb:TS}{D:Ends}{σ:St}{H:Hp}(Pv:Nat->St->Hp->Prop)(h0:Pv 0 σ H)(hl:∀i σ H,i<=xs.length->Pv i σ H->SqL K H a xs)
   (hs:∀i x σ H,xs[i]? = some x->Pv i σ H->g x σ H fun σ2 H2=>tb { D with nx:=Pv (i+1),ct:=Pv (i+1),bk:=D.nx } σ2 H2) (hd:∀σ H,Pv xs.length σ H->D.nx σ H) :
   ∃W:Nat->Nat->St->Hp->Prop,(∃m,W 0 m σ H)/\∀i m σ H,W i m σ H ->
     ((Itl K a).stop i H/\D.nx σ H)\/((Itl K a).go i H/\∃N:St->Hp->Prop,(∀σ' H',N σ' H'->∃m',m'<m/\W (i+1) m' σ' H')/\∀x H',(Itl K a).yld i H x H'->g x σ H' fun σ2 H2=>tb { D with nx:=N,ct:=N,bk:=D.nx } σ2 H2):=by
 refine⟨fun i m σ H=>m=xs.length-i/\i<=xs.length/\Pv i σ H,⟨xs.length,by simp,z2x _,h0⟩,?_⟩;rintro i m σ H ⟨rfl,hi,p⟩;have q:=hl i σ H hi p;by_cases hlt:i<xs.length
 · refine .inr ⟨⟨xs,xs[i],q,by simp[hlt]⟩,Pv (i+1),fun σ' H' p'=>⟨xs.length-(i+1),by omega,rfl,hlt,p'⟩,fun x H' y=>?_⟩;obtain⟨e,y⟩:=y;subst e;exact hs i x σ _ (y xs q) p
 · have e:i=xs.length:=by omega
   subst e;exact .inl ⟨⟨xs,q,z16 _⟩,hd σ H p⟩
theorem zm0{lo:Int}{n:Nat}{g:TG}{tb:TS}{D:Ends}{σ:St}{H:Hp}(Pv:Nat->St->Hp->Prop)(h0:Pv 0 σ H)
   (hs:∀i σ H,i<n->Pv i σ H->g (.int (lo+i)) σ H fun σ2 H2=>tb { D with nx:=Pv (i+1),ct:=Pv (i+1),bk:=D.nx } σ2 H2) (hd:∀σ H,Pv n σ H->D.nx σ H) :
   ∃W:Nat->Nat->St->Hp->Prop,(∃m,W 0 m σ H)/\∀i m σ H,W i m σ H ->
     ((Itr lo n).stop i H/\D.nx σ H)\/((Itr lo n).go i H/\∃N:St->Hp->Prop,(∀σ' H',N σ' H'->∃m',m'<m/\W (i+1) m' σ' H')/\∀x H',(Itr lo n).yld i H x H'->g x σ H' fun σ2 H2=>tb { D with nx:=N,ct:=N,bk:=D.nx } σ2 H2):=by
 refine⟨fun i m σ H=>m=n-i/\i<=n/\Pv i σ H,⟨n,by simp,z2x _,h0⟩,?_⟩;rintro i m σ H ⟨rfl,hi,p⟩;by_cases hlt:i<n
 · refine .inr ⟨hlt,Pv (i+1),fun σ' H' p'=>⟨n-(i+1),by omega,rfl,hlt,p'⟩,fun x H' y=>?_⟩;obtain⟨e,y⟩:=y;subst e y;exact hs i σ _ hlt p
 · have e:i=n:=by omega
   subst e;exact .inl ⟨z16 _,hd σ H p⟩
abbrev R2:=V->V->Hp->VK->Prop
def OpR(X:Cx)(f:Value->Value->Sem Value)(r:R2):Prop :=
 ∀(pins:zAO) (s:Shared) (σ:St) (H:Hp) (x y:V) (v u:Value) (Q:VK),Inv X pins σ H s->RelV x v->RelV y u->r x y H Q ->
   wpAny (model X.prog X.w) X.A (f v u) (EP X pins σ Q) X.xe s
def CallR(X:Cx)(f:Value)(r:List V->Hp->VK->Prop):Prop :=
 ∀(pins:zAO) (s:Shared) (σ:St) (H:Hp) (xs:List V) (us:List Value) (Q:VK),Inv X pins σ H s->Vals xs us->r xs H Q ->
   wpAny (model X.prog X.w) X.A (call f us) (EP X pins σ Q) X.xe s
def tOp(r:R2)(ta tb:TE):TE:=fun σ H Q=>ta σ H fun x H1=>tb σ H1 fun y H2=>r x y H2 Q
def rI(C:Int->Int->Prop)(g:Int->Int->V):R2:=fun x y H Q=>∃i j,x=.int i/\y=.int j/\C i j/\Q (g i j) H
def rI0(g:Int->Int->V):R2:=fun x y H Q=>∃i j,x=.int i/\y=.int j/\Q (g i j) H
section
variable {X:Cx}{a b c:Expr}{ta tb tc:TE}{pos:Pos}
theorem z0k(ha:PE X a ta)(hb:PE X b tb){pins:zAO}{s:Shared}{σ:St}{H:Hp}{R:V->V->Hp->Prop}(I:Inv X pins σ H s)
   (h:ta σ H fun x H1=>tb σ H1 fun y H2=>R x y H2) {Q:zVP}{f:Value->Value->Sem Value}
   (hf:∀v u s2 x y H2,Inv X pins σ H2 s2->RelV x v->RelV y u->R x y H2->wpAny (model X.prog X.w) X.A (f v u) Q X.xe s2) :
   wpAny (model X.prog X.w) X.A (eval a X.env) (fun v s₁=>wpAny (model X.prog X.w) X.A (eval b X.env) (fun u s₂=>wpAny (model X.prog X.w) X.A (f v u) Q X.xe s₂) X.xe s₁) X.xe s:=by
 refine thn (ha pins s σ H _ I h) fun v s1 ⟨x,H1,I1,r1,q1⟩=>?_;refine thn (hb pins s1 σ H1 _ I1 q1) fun u s2 ⟨y,H2,I2,r2,q2⟩=>?_;exact hf v u s2 x y H2 I2 r1 r2 q2
theorem zzd{op:Operator}{r:R2}(ho:OpR X (binaryOp op) r)(ha:PE X a ta)(hb:PE X b tb):PE X (.BinOp a op b pos) (tOp r ta tb):=by intro pins s σ H Q I h;exact wpAny_BinOp (z0k ha hb I h fun v u s2 x y H2 I2 rx ry q=>ho pins s2 σ H2 x y v u Q I2 rx ry q)
theorem opI{f:Value->Value->Sem Value}{C:Int->Int->Prop}{g:Int->Int->Int}
   (rule:∀(i j:Int) (t u:Tok) (s:Shared) (Q:zVP) (E:zVP),C i j->Q (.int (g i j) s.toks) { s with toks:=s.toks+1 }->wpAny (model X.prog X.w) X.A (f (.int i t) (.int j u)) Q E s) :
   OpR X f (rI C fun i j=>.int (g i j)):=by
 intro pins s σ H x y v u Q I rx ry h;obtain⟨i,j,rfl,rfl,hc,q⟩:=h;obtain⟨t,rfl⟩:=rx;obtain⟨t',rfl⟩:=ry;exact rule i j t t' s _ _ hc ⟨.int (g i j),H,I.tok _,⟨_,rfl⟩,q⟩
theorem z0w{f:Value->Value->Sem Value}{g:Int->Int->Int}
   (rule:∀(i j:Int) (t u:Tok) (s:Shared) (Q:zVP) (E:zVP),Q (.int (g i j) s.toks) { s with toks:=s.toks+1 }->wpAny (model X.prog X.w) X.A (f (.int i t) (.int j u)) Q E s) :
   OpR X f (rI0 fun i j=>.int (g i j)):=by
 intro pins s σ H x y v u Q I rx ry h;obtain⟨i,j,rfl,rfl,q⟩:=h;obtain⟨t,rfl⟩:=rx;obtain⟨t',rfl⟩:=ry;exact rule i j t t' s _ _ ⟨.int (g i j),H,I.tok _,⟨_,rfl⟩,q⟩
theorem zx9{f:Value->Value->Sem Value}{g:Int->Int->Bool}
   (rule:∀(i j:Int) (t u:Tok) (s:Shared) (Q:zVP) (E:zVP),Q (.bool (g i j)) s->wpAny (model X.prog X.w) X.A (f (.int i t) (.int j u)) Q E s) :
   OpR X f (rI0 fun i j=>.bl (g i j)):=by
 intro pins s σ H x y v u Q I rx ry h;obtain⟨i,j,rfl,rfl,q⟩:=h;obtain⟨t,rfl⟩:=rx;obtain⟨t',rfl⟩:=ry;exact rule i j t t' s _ _ ⟨.bl (g i j),H,I,rfl,q⟩
def z1z(i j:Int):Prop:=0<j/\j<1073741824
def z1y(i j:Int):Prop:=0<=j/\j<=1000000/\i.natAbs<2^64
def CMul(i j:Int):Prop:=(-(2^64)<i/\i<2^64)\/(-(2^64)<j/\j<2^64)
theorem CMul.ok{i j:Int}(h:CMul i j):IntMulOk i j:=by
 rcases h with⟨h1,h2⟩ | ⟨h1,h2⟩
 · exact .of_left (intBits_le_64 h1 h2)
 · exact .of_right (intBits_le_64 h1 h2)
theorem op_add:OpR X (binaryOp .Add) (rI0 fun i j=>.int (i+j)):=z0w fun _ _ _ _ _ _ _ q=>add_int q
theorem zv9:OpR X (binaryOp .Sub) (rI0 fun i j=>.int (i-j)):=z0w fun _ _ _ _ _ _ _ q=>sub_int q
theorem zs2:OpR X (binaryOp .FloorDiv) (rI z1z fun i j=>.int (i/j)):=opI fun i j _ _ _ _ _ hc q=>by have h1:(0:Int)<j:=hc.1;have h2:j<1073741824:=hc.2;exact floordiv_int (by omega) (by rw[Int.fdiv_eq_ediv_of_nonneg i (by omega)];exact q) (.inl (PyProof.noPylong_small (by omega)))
theorem zwb:OpR X (binaryOp .Mod) (rI (fun _ j=>0<j) fun i j=>.int (i%j)):=opI fun i j _ _ _ _ _ hc q=>by have h1:(0:Int)<j:=hc;exact mod_int' (by omega) (by rw[Int.fmod_eq_emod_of_nonneg i (by omega)];exact q)
theorem zwa:OpR X (binaryOp .Pow) (rI z1y fun i j=>.int (i^j.toNat)):=opI fun _ _ _ _ _ _ _ hc q=>pow_int_small hc.1 hc.2.1 hc.2.2 q
end
section
variable {X:Cx}{a b c:Expr}{ta tb tc:TE}{pos:Pos}
theorem zqu{pins:zAO}{σ:St}{H:Hp}{s:Shared}{Q:VK}{k k':Bool}(I:Inv X pins σ H s)(q:Q (.bl k) H)(e:k=k'):EP X pins σ Q (.bool k') s:=by subst e;exact⟨.bl k,H,I,rfl,q⟩
theorem zs1:OpR X (compareOp .Lt) (rI0 fun i j=>.bl (decide (i<j))):=zx9 fun _ _ _ _ _ _ _ q=>lt_int q
theorem zj5:OpR X (compareOp .LtE) (rI0 fun i j=>.bl (decide (i<=j))):=zx9 fun _ _ _ _ _ _ _ q=>le_int q
theorem zzj:OpR X (compareOp .Gt) (rI0 fun i j=>.bl (decide (j<i))):=zx9 fun _ _ _ _ _ _ _ q=>gt_int q
theorem zzk:OpR X (compareOp .GtE) (rI0 fun i j=>.bl (decide (j<=i))):=zx9 fun _ _ _ _ _ _ _ q=>ge_int q
theorem op_isN:OpR X (compareOp .Is) (fun x y H Q=>y=.non/\Q (.bl (decide (x=.non))) H):=by
 intro pins s σ H x y v u Q I rx ry h;obtain⟨rfl,q⟩:=h;cases ry;refine is_none_gen (zqu I q ?_);cases x<;>first
   | (cases rx;rfl)
   | (obtain⟨t,rfl⟩:=rx;rfl)
theorem op_notN:OpR X (compareOp .IsNot) (fun x y H Q=>y=.non/\Q (.bl (!decide (x=.non))) H):=by
 intro pins s σ H x y v u Q I rx ry h;obtain⟨rfl,q⟩:=h;cases ry;refine isnot_none_gen (zqu I q ?_);cases x<;>first
   | (cases rx;rfl)
   | (obtain⟨t,rfl⟩:=rx;rfl)
theorem OpR.or{f:Value->Value->Sem Value}{r r':R2}(h:OpR X f r)(h':OpR X f r'):OpR X f (fun x y H Q=>r x y H Q\/r' x y H Q):=by
 intro pins s σ H x y v u Q I rx ry q;rcases q with q | q
 · exact h pins s σ H x y v u Q I rx ry q
 · exact h' pins s σ H x y v u Q I rx ry q
theorem zal(b:Expr){op:CmpOp}(h:op≠.In:=by decide)(h2:op≠.NotIn:=by decide):behindInMarks op b=false:=by
 have e1:(op==CmpOp.In)=false:=by cases op<;>first | rfl | exact absurd rfl h
 have e2:(op==CmpOp.NotIn)=false:=by cases op<;>first | rfl | exact absurd rfl h2
 cases b<;>simp[behindInMarks,e1,e2]
theorem zsx{op:CmpOp}{r:R2}(ho:OpR X (compareOp op) r)(ha:PE X a ta)(hb:PE X b tb)(hm:behindInMarks op b=false):PE X (.Compare a [op] [b] pos) (tOp r ta tb):=by intro pins s σ H Q I h;exact wpAny_Compare1 (z0k ha hb I h fun v u s2 x y H2 I2 rx ry q=>ho pins s2 σ H2 x y v u Q I2 rx ry q) hm
def zob(t:TE):TT:=fun σ H Q=>t σ H fun x H'=>∃k,x=.bl k/\Q k H'
theorem zsn{op:CmpOp}{r:R2}(ho:OpR X (compareOp op) r)(ha:PE X a ta)(hb:PE X b tb)(hm:behindInMarks op b=false):PT X (.Compare a [op] [b] pos) (zob (tOp r ta tb)):=by
 intro pins s σ H Q I h;refine wpAny_isTrue_Compare1 (thn (ha pins s σ H _ I h) fun v s1 ⟨x,H1,I1,r1,q1⟩=>thn (hb pins s1 σ H1 _ I1 q1) fun u s2 ⟨y,H2,I2,r2,q2⟩=>
   thn (ho pins s2 σ H2 x y v u _ I2 r1 r2 q2) fun c s3 ⟨z,H3,I3,r3,k,e,q3⟩=>?_) hm
 subst e;cases r3;exact z3f ⟨H3,I3,q3⟩
def zqa(r r':R2)(ta tb tc:TE):TE:=fun σ H Q=>ta σ H fun x H1=>tb σ H1 fun y H2=>r x y H2 fun z H3=>∃k,z=.bl k /\
 (if k=true then tc σ H3 fun w' H4=>r' y w' H4 Q else Q (.bl false) H3)
theorem zoq{op op':CmpOp}{r r':R2}(ho:OpR X (compareOp op) r)(ho':OpR X (compareOp op') r')(ha:PE X a ta)(hb:PE X b tb)(hc:PE X c tc)
   (hm:lastMarks [op,op'] [b,c]=false:=by with_unfolding_all rfl):PT X (.Compare a [op,op'] [b,c] pos) (zob (zqa r r' ta tb tc)):=by
 intro pins s σ H Q I h;refine isTrue_chain (thn (ha pins s σ H _ I h) fun v s1 ⟨x,H1,I1,r1,q1⟩=>test_link (thn (hb pins s1 σ H1 _ I1 q1) fun u s2 ⟨y,H2,I2,r2,q2⟩=>
   thn (ho pins s2 σ H2 x y v u _ I2 r1 r2 q2) fun d s3 ⟨z,H3,I3,r3,k,e,q3⟩=>?_)) hm
 subst e;cases r3;refine z3f ?_;cases k with
 | false=>
   obtain⟨k',e',q'⟩:=q3;cases e';exact ite_ff ⟨H3,I3,q'⟩
 | true=>
   refine ite_tt (test_last (thn (hc pins s3 σ H3 _ I3 q3) fun w' s4 ⟨z',H4,I4,r4,q4⟩=>thn (ho' pins s4 σ H4 y z' u w' _ I4 r2 r4 q4) fun d' s5 ⟨z2,H5,I5,r5,k2,e2,q5⟩=>?_));subst e2;cases r5;exact z3f ⟨H5,I5,q5⟩
theorem zgr:(sizeLine:Nat)<2^63:=by rw[z3a];decide
theorem op_add_str:OpR X (binaryOp .Add) (fun x y H Q=>∃i j,x=.str i/\y=.str j/\i.length+j.length<=sizeLine/\Q (.str (i++j)) H):=by intro pins s σ H x y v u Q I rx ry h;obtain⟨i,j,rfl,rfl,hz,q⟩:=h;obtain⟨t,rfl⟩:=rx;obtain⟨t',rfl⟩:=ry;exact add_str (fun t' tk=>⟨.str (i++j),H,I.tok _,⟨_,rfl⟩,q⟩) hz
theorem zjq{x:V}{us:List Value}(r:Vals [x] us):∃u,us=[u]/\RelV x u:=by
 cases r with
 |cons r1 r2=>cases r2;exact⟨_,rfl,r1⟩
theorem zuq{x y:V}{us:List Value}(r:Vals [x,y] us):∃u w',us=[u,w']/\RelV x u/\RelV y w':=by
 cases r with
 | cons r1 r2=>
   cases r2 with
   |cons r3 r4=>cases r4;exact⟨_,_,rfl,r1,r3⟩
theorem zpy:CallR X (.builtin "abs") (fun xs H Q=>∃i,xs=[.int i]/\Q (.int (if i<0 then -i else i)) H):=by intro pins s σ H xs us Q I r h;obtain⟨i,rfl,q⟩:=h;obtain⟨u,rfl,t,rfl⟩:=zjq r;exact call_abs_int fun u tk=>⟨.int (if i<0 then -i else i),H,I.tok _,⟨_,rfl⟩,q⟩
theorem znp(hc:X.calm=true):CallR X (.builtin "max") (fun xs H Q=>∃i j,xs=[.int i,.int j]/\Q (.int (if j>i then j else i)) H):=by
 intro pins s σ H xs us Q I r h;obtain⟨i,j,rfl,q⟩:=h;obtain⟨u,w',rfl,⟨t,rfl⟩,⟨t',rfl⟩⟩:=zuq r;refine max_two_ints (I.ok.hd hc) fun h' tk k=>⟨_,H,I.kept k,?_,q⟩
 by_cases hj:j>i
 · rw[z2v hj,z2v hj];exact⟨_,rfl⟩
 · rw[z2w hj,z2w hj];exact⟨_,rfl⟩
theorem zno(hc:X.calm=true):CallR X (.builtin "min") (fun xs H Q=>∃i j,xs=[.int i,.int j]/\Q (.int (if j<i then j else i)) H):=by
 intro pins s σ H xs us Q I r h;obtain⟨i,j,rfl,q⟩:=h;obtain⟨u,w',rfl,⟨t,rfl⟩,⟨t',rfl⟩⟩:=zuq r;refine min_two_ints (I.ok.hd hc) fun h' tk k=>⟨_,H,I.kept k,?_,q⟩
 by_cases hj:j<i
 · rw[z2v hj,z2v hj];exact⟨_,rfl⟩
 · rw[z2w hj,z2w hj];exact⟨_,rfl⟩
theorem znq:CallR X (.type "int") (fun xs H Q=>(∃i,xs=[.int i]/\Q (.int i) H)\/∃k,xs=[.bl k]/\Q (.int (if k then 1 else 0)) H):=by
 intro pins s σ H xs us Q I r h;rcases h with⟨i,rfl,q⟩ | ⟨k,rfl,q⟩
 · obtain⟨u,rfl,t,rfl⟩:=zjq r;exact call_int_int ⟨.int i,H,I,⟨_,rfl⟩,q⟩
 · obtain⟨u,rfl,r1⟩:=zjq r;cases r1;exact call_int_bool ⟨.int (if k then 1 else 0),H,I.tok _,⟨_,rfl⟩,q⟩
end
structure ObjM (h:Heap) (x dx C:Addr) (mA:zMg):Prop where
 obj:h.get? x=some (PySem.W.instObj C dx)
 ns:h.Ns1 dx mA
 ne:dx≠x
theorem zgq{h:Heap}{dx:Addr}{mA:zMg}(n:h.Ns1 dx mA):∃od,h.get? dx=some od/\∀name,PySem.W.lookIn name od=some (mA name):=by
 obtain⟨o,es,ep,ho,hd,hk,_,hm⟩:=n;refine⟨o,ho,fun name=>?_⟩;have e:=hm name;unfold nsFind findBy at e;rw[<-z5e]at e;unfold PySem.W.lookIn;rw[hd];dsimp only;split
 · rename_i y q;rw[q]at e;exact z30 some e
 · rename_i q;rw[q]at e;have a:es.toList.any (·.refKey)=false:=by rw[List.any_eq_false];intro y hy;obtain⟨z,t,hkey⟩:=hk y (Array.mem_toList_iff.mp hy);simp[DictEntry.refKey,hkey]
   have a':¬ es.toList.any (·.refKey)=true:=by rw[a];exact z3g
   rw[z2w a'];exact z30 some e
theorem ObjM.look{h:Heap}{x dx C:Addr}{mA:zMg}(I:ObjM h x dx C mA):∃od,PySem.W.InstAt h x (PySem.W.instObj C dx) C (some od)/\∀name,PySem.W.lookIn name od=some (mA name) :=
 let⟨od,ho,hl⟩:=zgq I.ns
 ⟨od,⟨I.obj,rfl,rfl,ho⟩,hl⟩
section
variable {prog:Program}{w:World}{A:Around}{E:zVP}{s:Shared}{K:zFr}{x dx C f:Addr}{mA:zMg}{name:Str}{v:Value}
theorem ztj{expr:Bool}{Q:zVP}(X:K.In s.heap)(I:ObjM s.heap x dx C mA)(hg:PySem.W.plainGet K C name=true)(hh:PySem.W.hasDictIn K C=true)
   (ha:PySem.W.findIn K (.ref C) name=some none) (hv:mA name=some v) (hv':PySem.W.handedIn v=true) (h:Q v { s with toks:=s.toks+1 }) :
   wpAny (model prog w) A (getAttr (.ref x) name expr) Q E s:=by
 obtain⟨od,J,hl⟩:=I.look;exact PySem.W.get_value X J (z44 hg).1 (PySem.W.findObj_own hh ha rfl (by rw[hl,hv])) hv' h
theorem zpj{pl:Sem Bool}{Q:Value×List Value->Shared->Prop}(X:K.In s.heap)(I:ObjM s.heap x dx C mA)(hg:PySem.W.plainGet K C name=true)
   (hf:PySem.W.findIn K (.ref C) name=some (some (.ref f))) (ht:PySem.W.isFn K (.ref f)=true) (hv:mA name=none) (h:Q (.ref f,[.ref x]) s) :
   wpAny (model prog w) A (getMethod (.ref x) name pl) Q E s:=by
 obtain⟨od,J,hl⟩:=I.look;exact PySem.W.method_fn X J (z44 hg).1 (z44 hg).2 hf (z3k.mp ht) (by show(PySem.W.lookIn name od).map (·.isSome)=some false;rw[hl,hv];rfl) h
theorem zsf{ns:List Str}{Q:Unit->Shared->Prop}(X:K.In s.heap)(I:ObjM s.heap x dx C mA)
   (hs:PySem.W.findIn K (.ref C) "__setattr__"=some (some (.builtin "object.__setattr__"))) (hp:PySem.W.plainOver K C=true) (ht:PySem.W.takerIn K C name=some none) (hh:PySem.W.hasDictIn K C=true)
   (hw:PySem.Within mA ns) (hsz:ns.length<=sizeLine)
   (h:∀h',ObjM h' x dx C (fun y=>if y=name then some v else mA y)->Heap.SameBut dx s.heap h'->Q () { s with heap:=h',toks:=s.toks+2 }) :
   wpAny (model prog w) A (setAttr (.ref x) name v) Q E s:=by
 obtain⟨od,J,hl⟩:=I.look;refine PySem.W.set_plain X J hs (PySem.W.osa_open (s:={ s with toks:=s.toks+1 }) (r:=none) X J hp ht fun b=>?_);obtain⟨cd,hc,hd'⟩:=PySem.W.any_some hh;have hx:s.heap.get? x=some ⟨.ref C,some dx,.plain,#[]⟩:=I.obj;refine z12 (z2a (z12 (z12 (z4w hx (z12 (PySem.W.Looks.here (s:={ s with toks:=s.toks+1 }) (PySem.W.looks_clsIn X hc) ?_))))));rw[hd'];refine z2a (a:=some dx) (z12 (z2a (z12 ?_)));refine wpAny_nsSet1 (s:={ s with toks:=s.toks+1 }) I.ns fun h' hn2 hs2=>?_;obtain⟨oD,esD,epD,hoD,hdD,hcD⟩:=hn2.count (PySem.Within.cons name v hw);refine z12 (wpAny_lookBehind hoD (by rw[hdD];exact pastItsLine_dict (z2h hcD (by rw[List.length_cons];omega))) ?_);exact z2a (h _ ⟨(hs2.2 _ (z26 I.ne)).trans I.obj,hn2,I.ne⟩ hs2)
theorem zo8{R:Result->Shared->Prop}{vs:List Value}{kw:List (Str×Value)}(X:K.In s.heap)(hm:PySem.W.makesIn K C=true)
   (hi:PySem.W.findIn K (.ref C) "__init__"=some (some (.ref f))) (hf:PySem.W.typeIn K (.ref f)=some (.type "function"))
   (h:codeAny (model prog w) (A.under (.builtin "type.__call__" ⟨.ref C::vs,kw⟩)) (.call (.ref f) ⟨.ref (s.heap.objs.size+1)::vs,kw⟩) (PySem.W.InitBack (s.heap.objs.size+1) R)
     { s with heap:=(s.heap.push PySem.W.emptyDict).push (PySem.W.instObj C s.heap.objs.size) }) :
   codeAny (model prog w) A (.call (.ref C) ⟨vs,kw⟩) R s:=by
 obtain⟨hh,g,d,t,os⟩:=s;exact PySem.W.make_core (PySem.W.makes_of X hm) (PySem.W.looks_findIn X hi) (fun self=>PySem.W.bind_fn X self hf) (.inl rfl) h
end
def zd4(f:Str)(v:V):List (Str×V)->List (Str×V)
 | []=>[(f,v)]
 | (g,x)::r=>if g=f then (g,v)::r else (g,x)::zd4 f v r
theorem zdd(f g:Str)(v:V):∀fs:List (Str×V),(zd4 f v fs).lookup g=if g=f then some v else fs.lookup g
 | []=>by
   show List.lookup g [(f,v)]=_;by_cases h:g=f
   · have hb:(g==f)=true:=z3k.mpr h;simp only[List.lookup,hb,z2v h]
   · have hb:(g==f)=false:=z4e.mpr h;simp only[List.lookup,hb,z2w h]
 | (k,x)::r=>by
   have ih:=zdd f g v r;rw[show zd4 f v ((k,x)::r)=(if k=f then (k,v)::r else (k,x)::zd4 f v r)from rfl];by_cases hk:k=f
   · rw[z2v hk];by_cases h:g=k
     · have hb:(g==k)=true:=z3k.mpr h;simp only[List.lookup,hb,z2v (h.trans hk)]
     · have hb:(g==k)=false:=z4e.mpr h;simp only[List.lookup,hb,z2w (fun e:g=f=>h (e.trans hk.symm))]
   · rw[z2w hk];by_cases h:g=k
     · have hb:(g==k)=true:=z3k.mpr h;simp only[List.lookup,hb,z2w (fun e:g=f=>hk (h.symm.trans e))]
     · have hb:(g==k)=false:=z4e.mpr h;simp only[List.lookup,hb];exact ih
theorem zdi(f:Str)(v:V):∀fs:List (Str×V),f∈(zd4 f v fs).map (·.1)/\∀g,g∈fs.map (·.1)->g∈(zd4 f v fs).map (·.1)
 | []=>⟨by simp[zd4],fun g h=>by simp at h⟩
 | (k,x)::r=>by
   obtain⟨i1,i2⟩:=zdi f v r;rw[show zd4 f v ((k,x)::r)=(if k=f then (k,v)::r else (k,x)::zd4 f v r)from rfl];by_cases hk:k=f
   · rw[z2v hk];subst hk;exact⟨by simp,fun g h=>by simpa using h⟩
   · rw[z2w hk];refine⟨?_,fun g h=>?_⟩
     · rw[z2o];exact z2e _ i1
     · rw[z2o]at h ⊢;rcases z2l.mp h with e | e
       · exact z2l.mpr (.inl e)
       · exact z2e _ (i2 g e)
theorem zdf(f:Str)(v:V):∀fs:List (Str×V),(zd4 f v fs).length<=fs.length+1
 | []=>by simp[zd4]
 | (k,x)::r=>by
   have ih:=zdf f v r;rw[show zd4 f v ((k,x)::r)=(if k=f then (k,v)::r else (k,x)::zd4 f v r)from rfl];by_cases hk:k=f
   · rw[z2v hk,List.length_cons,List.length_cons];omega
   · rw[z2w hk,List.length_cons,List.length_cons];omega
theorem RelO.some_of{v:V}{o:Option Value}(r:RelO (some v) o):∃u,o=some u/\RelV v u:=by
 cases o with
 |none=>exact(show False from r).elim
 |some u=>exact⟨u,rfl,r⟩
theorem RelO.none_of{o:Option Value}(r:RelO none o):o=none:=by
 cases o with
 |none=>rfl
 |some u=>exact(show False from r).elim
theorem zgs{v:V}{u:Value}(r:RelV v u):PySem.W.handedIn u=true:=by
 cases v with
 |non=>cases(show u=Value.none from r);rfl
 |bl b=>cases(show u=Value.bool b from r);rfl
 |int i=>obtain⟨t,e⟩:=(show ∃t,u=Value.int i t from r);cases e;rfl
 |str x=>obtain⟨t,e⟩:=(show ∃t,u=Value.str x t from r);cases e;rfl
 |byt b=>obtain⟨t,e⟩:=(show ∃t,u=Value.bytes b t from r);cases e;rfl
 |flt b=>obtain⟨t,e⟩:=(show ∃t,u=Value.float b t from r);cases e;rfl
 |ref a=>cases(show u=Value.ref a from r);rfl
 |ty n=>cases(show u=Value.type n from r);rfl
section
variable {P:Program}{w:World}{H H':Hp}{h h':Heap}{a C dx:Addr}{fs fs':List (Str×V)}
theorem zdk(hok:HOk P w H h)(e:H a=some (.ins C dx fs)):∃mA,ObjM h a dx C mA/\(∀f,RelO (fs.lookup f) (mA f))/\PySem.Within mA (fs.map (·.1))/\fs.length<=1000/\H dx=some (.own a):=by
 obtain⟨d,z,ne,ob,mA,n,r,q⟩:=(show ObjOk P w H h a (.ins C dx fs)from hok a _ e)
 exact⟨mA,⟨ob,n,ne⟩,r,q,z,d⟩
end
structure Cls (K:zFr) (C:Addr):Prop where
 pg:PySem.W.plainGet K C Str.empty=true
 hd:PySem.W.hasDictIn K C=true
 po:PySem.W.plainOver K C=true
 sa:PySem.W.findIn K (.ref C) "__setattr__"=some (some (.builtin "object.__setattr__"))
theorem Cls.get{K:zFr}{C:Addr}(c:Cls K C)(f:Str):PySem.W.plainGet K C f=true:=c.pg
def NoAttr(K:zFr)(C:Addr)(f:Str):Prop:=PySem.W.findIn K (.ref C) f=some none
theorem NoAttr.taker{K:zFr}{C:Addr}{f:Str}(n:NoAttr K C f):PySem.W.takerIn K C f=some none:=by unfold PySem.W.takerIn;rw[show PySem.W.findIn K (.ref C) f=some none from n];rfl
structure Meth (K:zFr) (C:Addr) (m:Str) (f:Addr):Prop where
 at_:PySem.W.findIn K (.ref C) m=some (some (.ref f))
 fn:PySem.W.isFn K (.ref f)=true
 kp:PySem.W.keepIn K (.ref f)=true
section
variable {X:Cx}{pins:zAO}{σ:St}{H:Hp}{s:Shared}{a C dx:Addr}{fs:List (Str×V)}{f:Str}{v:V}{A:Around}{E:zVP}
theorem zke{b:Bool}{Q:zVP}(I:Inv X pins σ H s)(e:H a=some (.ins C dx fs))(c:Cls X.K C)(n:NoAttr X.K C f)(l:fs.lookup f=some v)
   (h:∀u s',Inv X pins σ H s'->RelV v u->Q u s'):wpAny (model X.prog X.w) A (getAttr (.ref a) f b) Q E s:=by
 obtain⟨mA,O,r,_,_,_⟩:=zdk I.hok e;obtain⟨u,hu,ru⟩:=RelO.some_of (v:=v) (o:=mA f) (by rw[<-l];exact r f);exact ztj I.kIn O (c.get f) c.hd n hu (zgs ru) (h u _ (I.tok _) ru)
theorem yq{m:Str}{g:Addr}{pl:Sem Bool}{Q:Value×List Value->Shared->Prop}(I:Inv X pins σ H s)(e:H a=some (.ins C dx fs))(c:Cls X.K C)(k:Meth X.K C m g)(l:fs.lookup m=none)
   (h:Q (.ref g,[.ref a]) s):wpAny (model X.prog X.w) A (getMethod (.ref a) m pl) Q E s:=by
 obtain⟨mA,O,r,_,_,_⟩:=zdk I.hok e;have hn:mA m=none:=RelO.none_of (by rw[<-l];exact r m);exact zpj I.kIn O (c.get m) k.at_ k.fn hn h
theorem zjw{y:V}{u:Value}{Q:Unit->Shared->Prop}(I:Inv X pins σ H s)(e:H a=some (.ins C dx fs))(c:Cls X.K C)(n:NoAttr X.K C f)(hl:fs.length<1000)(ry:RelV y u)
   (h:∀s',Inv X pins σ (upd H a (.ins C dx (zd4 f y fs))) s'->Q () s'):wpAny (model X.prog X.w) A (setAttr (.ref a) f u) Q E s:=by
 obtain⟨mA,O,r,wi,_,ho⟩:=zdk I.hok e;have hz:(fs.map (·.1)).length<=sizeLine:=by rw[z45,z3a];omega
 refine zsf I.kIn O c.sa c.po n.taker c.hd wi hz fun h' O' sb=>h _ ?_;have hd:∃o,h'.get? dx=some o:=let⟨o,_,_,e',_⟩:=O'.ns;⟨o,e'⟩;refine I.write (x:=a) (e:=dx) (by rw[e];exact True.intro) (.inr ho) (fun b q hb z=>(sb.2 b hb).trans z) hd ?_;refine⟨by rw[zw O.ne];exact ho,?_,O.ne,O'.obj,_,O'.ns,fun g=>?_,fun g hg=>?_⟩
 · have:=zdf f y fs;omega
 · show RelO ((zd4 f y fs).lookup g) (if g=f then some u else mA g);rw[zdd];by_cases q:g=f
   · rw[z2v q,z2v q];exact ry
   · rw[z2w q,z2w q];exact r g
 · by_cases q:g=f
   · rw[q];exact(zdi f y fs).1
   · refine(zdi f y fs).2 g (wi g fun z=>hg ?_);show(if g=f then some u else mA g)=none;rw[z2w q];exact z
theorem Inv.made(I:Inv X pins σ H s):Inv X pins σ (upd (upd H s.heap.objs.size (.own (s.heap.objs.size+1))) (s.heap.objs.size+1) (.ins C s.heap.objs.size []))
   { s with heap:=(s.heap.push PySem.W.emptyDict).push (PySem.W.instObj C s.heap.objs.size) }:=by
 have e1:(s.heap.push PySem.W.emptyDict).get? s.heap.objs.size=some PySem.W.emptyDict:=z2q s.heap rfl;have e2:((s.heap.push PySem.W.emptyDict).push (PySem.W.instObj C s.heap.objs.size)).get? (s.heap.objs.size+1)=some (PySem.W.instObj C s.heap.objs.size):=by
   have:=z2q (s.heap.push PySem.W.emptyDict) (o:=PySem.W.instObj C s.heap.objs.size) rfl
   rwa [z5i]at this
 have e3:(s.heap.push PySem.W.emptyDict).Ns s.heap.objs.size (fun _=>none):=⟨PySem.W.emptyDict,#[],_,e1,rfl,(fun e he=>absurd he (by simp)),fun _=>rfl⟩
 have I1:=I.laid (a:=s.heap.objs.size) (o:=.own (s.heap.objs.size+1)) (h':=s.heap.push PySem.W.emptyDict) (t':=s.toks) (fun b u q=>z14 _ q) (z16 _) ⟨_,e1⟩;refine I1.laid (a:=s.heap.objs.size+1) (o:=.ins C s.heap.objs.size []) (t':=s.toks) (fun b u q=>z14 _ q) (z5t (z5i _ _)) ?_;have ne:s.heap.objs.size≠s.heap.objs.size+1:=z2f (z5q _);refine⟨by rw[zw ne,jd],z2x _,ne,e2,fun _=>none,(Heap.Ns1.of_empty e3).at fun o q=>z14 _ q,fun _=>True.intro,fun y hy=>absurd rfl hy⟩
theorem znz{prog:Program}{w:World}{env:Env}{e:Expr}{f:Str}{pos:Pos}{s:Shared}{Q:zVP}(hb:attributeBase e f env (eval e env)=eval e env)
   (h:wpAny (model prog w) A (eval e env) (fun o s₁=>wpAny (model prog w) A (getAttr o f true) Q E s₁) E s):wpAny (model prog w) A (eval (.Attribute e f pos) env) Q E s :=
 Attribute_any_ h (by rw[arm_eval_Attribute,hb])
end
def z1h(K:zFr)(ta:TE)(f:Str):TE:=fun σ H Q=>ta σ H fun x H1=>∃a C dx fs v,x=.ref a/\H1 a=some (.ins C dx fs)/\Cls K C/\NoAttr K C f/\fs.lookup f=some v/\Q v H1
def z1l(K:zFr)(ta tv:TE)(f:Str):TS:=fun D σ H=>tv σ H fun y H1=>ta σ H1 fun x H2=>∃a C dx fs,x=.ref a/\H2 a=some (.ins C dx fs)/\Cls K C/\NoAttr K C f/\fs.length<1000 /\
 D.nx σ (upd H2 a (.ins C dx (zd4 f y fs)))
section
variable {X:Cx}{o e value:Expr}{f:Str}{pos pos' tpos:Pos}{ta tv:TE}
theorem zv5(he:PE X e ta)(hb:attributeBase e f X.env (eval e X.env)=eval e X.env):PE X (.Attribute e f pos) (z1h X.K ta f):=by intro pins s σ H Q I h;refine znz hb (thn (he pins s σ H _ I h) fun u s1 ⟨x,H1,I1,rx,a,C,dx,fs,v,ex,ea,c,n,l,q⟩=>?_);subst ex;obtain rfl:u=Value.ref a:=rx;exact zke I1 ea c n l fun u' s2 I2 ru=>⟨v,H1,I2,ru,q⟩
theorem zvv(ha:PE X o ta)(hv:PE X value tv)(hs:swapsWith value (some (.Attribute o f pos')) pos.line X.env=pure false):PS X (.Assign [.Attribute o f pos'] value pos) (z1l X.K ta tv f):=by intro pins s σ H D I h;refine z4u (thn (hv pins s σ H _ I h) fun u s1 ⟨y,H1,I1,ry,q⟩=>thn (ha pins s1 σ H1 _ I1 q) fun ov s2 ⟨x,H2,I2,rx,a,C,dx,fs,ex,ea,c,n,l,q2⟩=>?_) hs;subst ex;obtain rfl:ov=Value.ref a:=rx;exact zjw I2 ea c n l ry fun s3 I3=>⟨σ,_,I3,q2⟩
end
section
variable {X:Cx}{pins:zAO}{σ:St}{H:Hp}{s:Shared}{A:Around}{E:zVP}{Q:zVP}{c:Value}{b:Bool}
inductive TyOf (K:zFr) (H:Hp):V->Value->Prop where
 |non:TyOf K H .non (.type "NoneType")
 |bl (x:Bool):TyOf K H (.bl x) (.type "bool")
 |int (i:Int):TyOf K H (.int i) (.type "int")
 |str (x:Str):TyOf K H (.str x) (.type "str")
 |flt (x:UInt64):TyOf K H (.flt x) (.type "float")
 |lst {a:Addr}{xs:List V} (e:H a=some (.lst xs)):TyOf K H (.ref a) (.type "list")
 |frz {a:Addr}{o:Obj}{xs:List V} (e:H a=some (.frz o (.lst xs))):TyOf K H (.ref a) (.type "list")
 |tup {a:Addr}{xs:List V} (e:H a=some (.tup xs)):TyOf K H (.ref a) (.type "tuple")
 |dK {a:Addr}{kvs:List (Key×V)} (e:H a=some (.dK kvs)):TyOf K H (.ref a) (.type "dict")
 |dT {a:Addr}{kvs:List (List Key×V)} (e:H a=some (.dT kvs)):TyOf K H (.ref a) (.type "dict")
 |ins {a C dx:Addr}{fs:List (Str×V)} (e:H a=some (.ins C dx fs)) (cl:Cls K C) (ha:PySem.W.findIn K (.ref C) "__class__"=some (some (.builtin "object.__class__")))
     (hn:PySem.W.specialIn K (.builtin "object.__class__") "__get__"=some (some (.builtin "getset_descriptor.__get__"))) (htk:PySem.W.takesIn K (.builtin "object.__class__")=some true)
     (hm:PySem.W.mroIn K C (.type "object")=some true):TyOf K H (.ref a) (.ref C)
theorem zmn{x:V}{u t:Value}(I:Inv X pins σ H s)(rx:RelV x u)(ty:TyOf X.K H x t)(e:PySem.W.kitOne X.K t c=some b)(h:∀tk,Q (.bool b) { s with toks:=tk }) :
   wpAny (model X.prog X.w) A (call (.builtin "isinstance") [u,c]) Q E s:=by
 cases ty with
 |non=>cases(show u=Value.none from rx);exact z22 PySem.W.kitx_none I.kIn True.intro e (fun z=>nomatch z) h
 |bl y=>cases(show u=Value.bool y from rx);exact z22 PySem.W.kitx_bool I.kIn True.intro e (fun z=>nomatch z) h
 |int i=>obtain⟨t,q⟩:=(show ∃t,u=Value.int i t from rx);cases q;exact z22 PySem.W.kitx_int I.kIn True.intro e (fun z=>nomatch z) h
 |str y=>obtain⟨t,q⟩:=(show ∃t,u=Value.str y t from rx);cases q;exact z22 PySem.W.kitx_str I.kIn True.intro e (fun z=>nomatch z) h
 |flt y=>obtain⟨t,q⟩:=(show ∃t,u=Value.float y t from rx);cases q;exact z22 PySem.W.kitx_float I.kIn True.intro e (fun z=>nomatch z) h
 | @lst a xs ea=>
   cases(show u=Value.ref a from rx);obtain⟨_,_,n,_,h1⟩:=(show ObjOk X.prog X.w H s.heap a (.lst xs)from I.hok a _ ea)
   exact z22 z5k I.kIn ⟨_,h1,rfl⟩ e (fun z=>nomatch z) h
 | @frz a ob xs ea=>
   cases(show u=Value.ref a from rx);obtain⟨_,_,_,n,_,h1⟩:=(show ObjOk X.prog X.w H s.heap a (.frz ob (.lst xs))from I.hok a _ ea)
   exact z22 z5k I.kIn ⟨_,h1,rfl⟩ e (fun z=>nomatch z) h
 | @tup a xs ea=>
   cases(show u=Value.ref a from rx);obtain⟨_,_,_,p⟩:=(show ObjOk X.prog X.w H s.heap a (.tup xs)from I.hok a _ ea)
   obtain⟨o,h1,h2,_⟩:=p;exact z22 PySem.W.kitx_tuple I.kIn ⟨o,h1,h2⟩ e (fun z=>nomatch z) h
 | @dK a kvs ea=>
   cases(show u=Value.ref a from rx);obtain⟨_,_,vs,_,p⟩:=(show ObjOk X.prog X.w H s.heap a (.dK kvs)from I.hok a _ ea)
   obtain⟨o,es,ep,h1,h2,_⟩:=p;exact z22 PySem.W.kitx_dict I.kIn ⟨o,h1,h2.1⟩ e (fun z=>nomatch z) h
 | @dT a kvs ea=>
   cases(show u=Value.ref a from rx);obtain⟨_,_,xs,_,o,es,ep,h1,h2,_⟩:=(show ObjOk X.prog X.w H s.heap a (.dT kvs)from I.hok a _ ea)
   exact z22 PySem.W.kitx_dict I.kIn ⟨o,h1,h2.1⟩ e (fun z=>nomatch z) h
 | @ins a C dx fs ea cl ha hn htk hm=>
   cases(show u=Value.ref a from rx);obtain⟨mA,O,_⟩:=zdk I.hok ea;obtain⟨od,J,_⟩:=O.look;exact z22 (PySem.W.kitx_own (cl.get _) cl.hd ha hn htk hm) I.kIn J e (fun z=>nomatch z) h
end
structure Room (k:Nat) (A:Around):Prop where
 hd:A.handled=none
 dp:A.depth+3*k+5<recursionLimit
 un:A.units+16*k+200<cLine
 gd:A.guards=some []
theorem Room.mono{j k:Nat}{A:Around}(r:Room k A)(h:j<=k):Room j A:=⟨r.hd,by have:=r.dp;omega,by have:=r.un;omega,r.gd⟩
theorem Room.deeper{k:Nat}{A:Around}(r:Room (k+1) A)(env:Env):Room k (A.deeper env) :=
 ⟨r.hd,by have:=r.dp;show A.depth+1+3*k+5<_;omega,by have:=r.un;show A.units+3+16*k+200<_;omega,r.gd⟩
theorem zj9{A:Around}{C:Addr}{us:List Value}{kw:List (Str×Value)}:(A.under (.builtin "type.__call__" ⟨.ref C::us,kw⟩)).depth=A.depth+1:=by
 first | rfl | simp[Around.under,Code.weight,Code.isCreation,Code.isGuard,Code.isCaller,Code.frames,Code.isFrame,guardIds]
theorem zj7{A:Around}{C:Addr}{us:List Value}{kw:List (Str×Value)}:(A.under (.builtin "type.__call__" ⟨.ref C::us,kw⟩)).units=A.units+1:=by
 first | rfl | simp[Around.under,Code.cUnits,Code.frames,Code.isFrame]
theorem Room.make{k:Nat}{A:Around}(r:Room (k+1) A)(C:Addr)(us:List Value)(kw:List (Str×Value)):Room k (A.under (.builtin "type.__call__" ⟨.ref C::us,kw⟩)) :=
 ⟨r.hd,by have:=r.dp;rw[zj9];omega,by have:=r.un;rw[zj7];omega,by first | exact r.gd | simpa [Around.under,Code.guards,Code.isGuard,guardIds,pushGuards] using r.gd⟩
theorem Room.depth{k:Nat}{A:Around}(r:Room k A):A.depth<recursionLimit:=by have:=r.dp;omega
def zyr:TA:=fun _ H Q=>Q [] H
def zyu(ta:TE)(tr:TA):TA:=fun σ H Q=>ta σ H fun x H1=>tr σ H1 fun xs H2=>Q (x::xs) H2
section
variable {X:Cx}{e:Expr}{es:List Expr}{te:TE}{t:TA}{pos:Pos}
theorem zqj:PA X [] zyr:=fun _ _ _ _ H Q I h=>Calls.spliced_nil ⟨[],H,I,.nil,h⟩
theorem zl0(ha:PE X e te)(hr:PA X es t)(hs:starEach (e::es) X.env=(false,eval e X.env)::starEach es X.env:=by rfl):PA X (e::es) (zyu te t):=by intro pos pins s σ H Q I h;rw[hs];show wpAny _ _ (spliced ((false,eval e X.env)::backTo pos (starEach es X.env))) _ _ s;refine z4n (thn (ha pins s σ H _ I h) fun u s1 ⟨x,H1,I1,r1,q1⟩=>?_);exact thn (hr pos pins s1 σ H1 _ I1 q1) fun us s2 ⟨xs,H2,I2,r2,q2⟩=>⟨x::xs,H2,I2,.cons r1 r2,q2⟩
def z09(t:TA):TE:=fun σ H Q=>t σ H fun xs H1=>xs.length<=sizeLine/\∀p,H1 p=none->Q (.ref p) (upd H1 p (.tup xs))
def z1e(t:TA):TE:=fun σ H Q=>t σ H fun xs H1=>xs.length<=sizeLine/\∀p,H1 p=none->Q (.ref p) (upd H1 p (.lst xs))
theorem zvz{x1}(h:PA X es t):PE X (.Tuple es x1 pos) (z09 t):=by intro pins s σ H Q I hq;refine wpAny_Tuple_spliced (thn (h pos pins s σ H _ I hq) fun us s1 ⟨xs,H1,I1,r,z,q⟩=>⟨by rw[<-r.length];exact z,?_⟩);have hf:H1 s1.heap.objs.size=none:=I1.hok.fresh (z16 _);refine⟨.ref s1.heap.objs.size,upd H1 s1.heap.objs.size (.tup xs),I1.laid (t':=s1.toks) (fun b u e=>z14 _ e) (z16 _) ?_,rfl,q _ hf⟩;exact⟨z,us,r,⟨_,z2q _ rfl,rfl,_,rfl⟩⟩
theorem zqi(h:PA X es t):PE X (.List es pos) (z1e t):=by intro pins s σ H Q I hq;refine wpAny_List_spliced (thn (h pos pins s σ H _ I hq) fun us s1 ⟨xs,H1,I1,r,z,q⟩=>⟨by rw[<-r.length];exact z,?_⟩);have hf:H1 s1.heap.objs.size=none:=I1.hok.fresh (z16 _);refine⟨.ref s1.heap.objs.size,upd H1 s1.heap.objs.size (.lst xs),I1.laid (t':=s1.toks) (fun b u e=>z14 _ e) (z16 _) ?_,rfl,q _ hf⟩;exact⟨z,us,0,r,z2q _ rfl⟩
end
abbrev Sp:=List V->Hp->VK->XK->Prop
abbrev CXT:=List Env->Hp->Shared->XK->zVP
structure Env0 (P:Program) (w:World) (K:zFr) (mg:zMg) (base:Heap) (A:Around) (outer:List Env) (s:Shared) (H:Hp):Prop where
 frames:A.frames=some outer
 mod:Mod K mg base
 bs:∀b o,base.get? b=some o->s.heap.get? b=some o/\H b=none
 bsz:base.objs.size<=s.heap.objs.size
 funs:s.heap.FunFrames base outer
 frf:∀b∈frs outer,H b=none
 hok:HOk P w H s.heap
 bare:AllBare s.gens
def CE(outer:List Env)(P:Program)(w:World)(H:Hp)(s:Shared)(Q:VK)(u:Value)(s':Shared):Prop :=
 ∃v H',s'.os=s.os/\AllBare s'.gens/\Un (frs outer) [] H H' s.heap s'.heap/\HOk P w H' s'.heap/\RelV v u/\Q v H'
def CR(CX:CXT)(outer:List Env)(P:Program)(w:World)(H:Hp)(s:Shared)(Q:VK)(E:XK)(r:Result)(s':Shared):Prop :=
 match r with
 | .ok (.ret u)=>CE outer P w H s Q u s'
 | .ok _=>False
 | .error e=>CX outer H s E e s'
structure FnOk (P:Program) (w:World) (K:zFr) (mg:zMg) (base:Heap) (CX:CXT) (k:Nat) (f:Addr) (fd:FuncData) (ps:List Str) (sp:Sp):Prop where
 len:∀vs H Q E,sp vs H Q E->vs.length=ps.length
 run:∀(A:Around) (outer:List Env) (s:Shared) (H:Hp) (args:Args) (us:List Value) (vs:List V) (Q:VK) (E:XK),Room k A->Env0 P w K mg base A outer s H->BindsTo s fd args (ps.zip us)->Vals vs us->sp vs H Q E ->
   codeAny (model P w) A (.call (.ref f) args) (CR CX outer P w H s Q E) s
theorem FnOk.imp{P:Program}{w:World}{K:zFr}{mg:zMg}{base:Heap}{CX:CXT}{k:Nat}{f:Addr}{fd:FuncData}{ps:List Str}{sp sp':Sp}(F:FnOk P w K mg base CX k f fd ps sp)
   (h:∀vs H Q E,sp' vs H Q E->sp vs H Q E):FnOk P w K mg base CX k f fd ps sp' :=
 ⟨fun vs H Q E q=>F.len vs H Q E (h _ _ _ _ q),fun A outer s H args us vs Q E hr he hb hv hs=>F.run A outer s H args us vs Q E hr he hb hv (h _ _ _ _ hs)⟩
theorem Env0.make{P:Program}{w:World}{K:zFr}{mg:zMg}{base:Heap}{A:Around}{outer:List Env}{s:Shared}{H:Hp}(e:Env0 P w K mg base A outer s H)(C:Addr)(us:List Value)(kw:List (Str×Value)) :
   Env0 P w K mg base (A.under (.builtin "type.__call__" ⟨.ref C::us,kw⟩)) outer s H:=⟨by first | exact e.frames | (simpa [Around.under,Code.envs,Code.isFrame,pushEnvs] using e.frames),e.mod,e.bs,e.bsz,e.funs,e.frf,e.hok,e.bare⟩
section
variable {X:Cx}{pins:zAO}{σ:St}{H:Hp}{s s':Shared}
theorem Inv.env0(I:Inv X pins σ H s):Env0 X.prog X.w X.K X.mg X.base X.A X.stack s H :=
 ⟨I.ok.frames,I.ok.mod,I.bs,z2h I.ok.bsz I.sz,I.stack,I.stkFree,I.hok,I.bare⟩
theorem Inv.after{Q:VK}{u:Value}(I:Inv X pins σ H s)(h:CE X.stack X.prog X.w H s Q u s'):EP X pins σ Q u s':=by obtain⟨v,H',os,bare,un,hok,r,q⟩:=h;obtain⟨hh,g,d,t,os'⟩:=s';obtain rfl:os'=s.os:=os;exact⟨v,H',I.call (h':=hh) (g':=g) (d':=d) (t':=t) (ch:=[]) un hok bare (fun b z=>absurd z (by simp)),r,q⟩
end
def zro(sp:Sp)(dvs:List V)(E:XK)(t:TA):TE:=fun σ H Q=>t σ H fun vs H1=>sp (vs++dvs) H1 Q E
def zuv(C:Addr)(m:Str)(sp:Sp)(dvs:List V)(E:XK)(ta:TE)(t:TA):TE:=fun σ H Q=>ta σ H fun x H1=>∃a dx fs,x=.ref a/\H1 a=some (.ins C dx fs)/\fs.lookup m=none /\
 t σ H1 fun vs H2=>sp (x::(vs++dvs)) H2 Q E
def zrl(C:Addr)(sp:Sp)(dvs:List V)(E:XK)(t:TA):TE:=fun σ H Q=>t σ H fun vs H1=>∀x dx,H1 x=none->H1 dx=none->dx≠x ->
 sp (.ref x::(vs++dvs)) (upd (upd H1 dx (.own x)) x (.ins C dx [])) (fun v H2=>v=.non/\Q (.ref x) H2) E
def Binds(K:zFr)(fd:FuncData)(ps:List Str)(ds:List Value):Prop :=
 ∀(s:Shared) (us:List Value),K.In s.heap->(us++ds).length=ps.length->BindsTo s fd ⟨us,[]⟩ (ps.zip (us++ds))
theorem Binds.all{K:zFr}{fd:FuncData}{ps:List Str}(h:∀us:List Value,us.length=ps.length->bindArgs fd ⟨us,[]⟩=pure (ps.zip us)):Binds K fd ps []:=fun s us _ hl=>by rw[z2y]at hl ⊢;exact .of_eq (h us hl)
def zb6(CX:CXT)(X:Cx)(E:XK):Prop:=∀(pins:zAO) (σ:St) (H:Hp) (s:Shared) (e:Value) (s':Shared),Inv X pins σ H s->CX X.stack H s E e s'->X.xe e s'
section
variable {X:Cx}{CX:CXT}{k:Nat}{f C:Addr}{fd:FuncData}{ps:List Str}{sp:Sp}{dvs:List V}{ds:List Value}{E:XK}{x m:Str}{p pos apos:Pos}{e o:Expr}{es:List Expr}{ta:TE}{t:TA}
theorem ziv{pins:zAO}{σ:St}{H:Hp}{s:Shared}{Q:VK}{us:List Value}{vs:List V}(F:FnOk X.prog X.w X.K X.mg X.base CX k f fd ps sp)(hr:Room k X.A)(hb:Binds X.K fd ps ds)(hd:Vals dvs ds)(hx:zb6 CX X E)
   (I:Inv X pins σ H s) (r:Vals vs us) (h:sp (vs++dvs) H Q E):wpAny (model X.prog X.w) X.A (call (.ref f) us) (EP X pins σ Q) X.xe s:=by
 have r2:Vals (vs++dvs) (us++ds):=r.append hd;have hl:(us++ds).length=ps.length:=by rw[<-r2.length];exact F.len _ _ _ _ h
 refine z4i (z4x (F.run X.A X.stack s H ⟨us,[]⟩ (us++ds) (vs++dvs) Q E hr I.env0 (hb s us I.kIn hl) r2 h) fun r s' hq=>?_);cases r with
 |error e=>exact hx pins σ H s e s' I hq
 | ok fl=>
   cases fl with
   |ret u=>exact I.after hq
   |next=>exact False.elim hq
   |brk=>exact False.elim hq
   |cont=>exact False.elim hq
theorem zsy(F:FnOk X.prog X.w X.K X.mg X.base CX k f fd ps sp)(hr:Room k X.A)(hg:Gl X x)(hm:X.mg x=some (.ref f))(hk:PySem.W.keepIn X.K (.ref f)=true)(hb:Binds X.K fd ps ds)(hd:Vals dvs ds)(hx:zb6 CX X E)
   (ha:PA X (e::es) t) (hdb:(x==("__debug__":Str))=false:=by decide) (he:starEach (e::es) X.env=(false,eval e X.env)::starEach es X.env:=by rfl) (hpl:(backTo pos (starEach es X.env)).any (·.1)=false:=by rfl) :
   PE X (.Call (.Name x p) (e::es) [] pos) (zro sp dvs E t):=by
 intro pins s σ H Q I h;refine z3h (kn I hg hm ?_ hdb);refine z3q (h₀:=X.base) I.ok.mod.kin hk (thn (ha pos pins s σ H _ I h) fun us s1 ⟨vs,H1,I1,r,q⟩=>⟨I1.kIn,?_⟩) he hpl;exact ziv F hr hb hd hx I1 r q
theorem zsv{pl:Sem Bool}(he:PE X o ta)(c:Cls X.K C)(hm:Meth X.K C m f)(F:FnOk X.prog X.w X.K X.mg X.base CX k f fd ps sp)(hr:Room k X.A)(hb:Binds X.K fd ps ds)(hd:Vals dvs ds)(hx:zb6 CX X E)(ha:PA X (e::es) t)
   (hst:starEach (e::es) X.env=(false,eval e X.env)::starEach es X.env:=by rfl) (hpl:(backTo pos (starEach es X.env)).any (·.1)=false:=by rfl)
   (ht:eval (.Call (.Attribute o m apos) (e::es) [] pos) X.env=(do
     let ov <-eval o X.env
     standAt apos.atName
     let(f,first) <-holding [ov] (getMethod ov m pl)
     callWith pos f first (backTo pos (starEach (e::es) X.env)) (backToKw pos (keywordEach [] X.env))):=by rfl) :
   PE X (.Call (.Attribute o m apos) (e::es) [] pos) (zuv C m sp dvs E ta t):=by
 intro pins s σ H Q I h;refine z3x (pl:=pl) (thn (he pins s σ H _ I h) fun u s1 ⟨x,H1,I1,rx,a,dx,fs,ex,ea,l,q⟩=>?_) ht;subst ex;obtain rfl:u=Value.ref a:=rx;refine yq I1 ea c hm l ?_;refine z3q (first:=[.ref a]) (h₀:=X.base) I.ok.mod.kin hm.kp (thn (ha pos pins s1 σ H1 _ I1 q) fun us s2 ⟨vs,H2,I2,r,q2⟩=>⟨I2.kIn,?_⟩) hst hpl;exact ziv (us:=.ref a::us) (vs:=.ref a::vs) F hr hb hd hx I2 (.cons rfl r) q2
theorem zoy{pl:Sem Bool}(he:PE X o ta)(c:Cls X.K C)(hm:Meth X.K C m f)(F:FnOk X.prog X.w X.K X.mg X.base CX k f fd ps sp)(hr:Room k X.A)(hb:Binds X.K fd ps ds)(hd:Vals dvs ds)(hx:zb6 CX X E)
   (ht:eval (.Call (.Attribute o m apos) [] [] pos) X.env=(do
     let ov <-eval o X.env
     standAt apos.atName
     let(f,first) <-holding [ov] (getMethod ov m pl)
     callWith pos f first (backTo pos (starEach [] X.env)) (backToKw pos (keywordEach [] X.env))):=by rfl) :
   PE X (.Call (.Attribute o m apos) [] [] pos) (zuv C m sp dvs E ta zyr):=by
 intro pins s σ H Q I h;refine z3x (pl:=pl) (thn (he pins s σ H _ I h) fun u s1 ⟨x,H1,I1,rx,a,dx,fs,ex,ea,l,q⟩=>?_) ht;subst ex;obtain rfl:u=Value.ref a:=rx;refine yq I1 ea c hm l ?_;exact z46 (first:=[.ref a]) I1.kIn hm.kp (ziv (us:=[.ref a]) (vs:=[.ref a]) F hr hb hd hx I1 (.cons rfl .nil) q)
structure Mk (K:zFr) (C f:Addr):Prop where
 makes:PySem.W.makesIn K C=true
 init:PySem.W.findIn K (.ref C) "__init__"=some (some (.ref f))
 fn:PySem.W.isFn K (.ref f)=true
 kp:PySem.W.keepIn K (.ref C)=true
theorem ziu{pins:zAO}{σ:St}{H:Hp}{s:Shared}{Q:VK}{us:List Value}{vs:List V}(M:Mk X.K C f)(F:FnOk X.prog X.w X.K X.mg X.base CX k f fd ps sp)(hr:Room (k+1) X.A)(hb:Binds X.K fd ps ds)(hd:Vals dvs ds)
   (hx:zb6 CX X E) (I:Inv X pins σ H s) (r:Vals vs us)
   (h:∀x dx,H x=none->H dx=none->dx≠x->sp (.ref x::(vs++dvs)) (upd (upd H dx (.own x)) x (.ins C dx [])) (fun v H2=>v=.non/\Q (.ref x) H2) E) :
   wpAny (model X.prog X.w) X.A (call (.ref C) us) (EP X pins σ Q) X.xe s:=by
 have hq:=h (s.heap.objs.size+1) s.heap.objs.size (I.hok.fresh (z4f _)) (I.hok.fresh (z16 _)) (z2f (z5q _));have I2:=Inv.made (C:=C) I;have r2:Vals (V.ref (s.heap.objs.size+1)::(vs++dvs)) (Value.ref (s.heap.objs.size+1)::(us++ds)):=.cons rfl (r.append hd);have hl:(Value.ref (s.heap.objs.size+1)::us++ds).length=ps.length:=by have e:=r2.length;rw[F.len _ _ _ _ hq]at e;exact e.symm
 refine z4i (zo8 (f:=f) I.kIn M.makes M.init (z3k.mp M.fn) (z4x (F.run _ X.stack _ _ ⟨Value.ref (s.heap.objs.size+1)::us,[]⟩ (Value.ref (s.heap.objs.size+1)::(us++ds)) _ _ E (hr.make C us [])
   (I2.env0.make C us []) (hb _ (Value.ref (s.heap.objs.size+1)::us) I2.kIn hl) r2 hq) fun r s' hq'=>?_))
 cases r with
 |error e=>exact hx pins σ _ _ e s' I2 hq'
 | ok fl=>
   cases fl with
   | ret u=>
     obtain⟨v,H',I3,rv,ev,q3⟩:=I2.after hq';subst ev;exact⟨rv,⟨V.ref (s.heap.objs.size+1),H',I3,rfl,q3⟩⟩
   |next=>exact False.elim hq'
   |brk=>exact False.elim hq'
   |cont=>exact False.elim hq'
theorem zsw(M:Mk X.K C f)(F:FnOk X.prog X.w X.K X.mg X.base CX k f fd ps sp)(hr:Room (k+1) X.A)(hg:Gl X x)(hm:X.mg x=some (.ref C))(hb:Binds X.K fd ps ds)(hd:Vals dvs ds)(hx:zb6 CX X E)
   (ha:PA X (e::es) t) (hdb:(x==("__debug__":Str))=false:=by decide) (he:starEach (e::es) X.env=(false,eval e X.env)::starEach es X.env:=by rfl) (hpl:(backTo pos (starEach es X.env)).any (·.1)=false:=by rfl) :
   PE X (.Call (.Name x p) (e::es) [] pos) (zrl C sp dvs E t):=by
 intro pins s σ H Q I h;refine z3h (kn I hg hm ?_ hdb);refine z3q (h₀:=X.base) I.ok.mod.kin M.kp (thn (ha pos pins s σ H _ I h) fun us s1 ⟨vs,H1,I1,r,q⟩=>⟨I1.kIn,?_⟩) he hpl;exact ziu M F hr hb hd hx I1 r q
theorem zoz(M:Mk X.K C f)(F:FnOk X.prog X.w X.K X.mg X.base CX k f fd ps sp)(hr:Room (k+1) X.A)(hg:Gl X x)(hm:X.mg x=some (.ref C))(hb:Binds X.K fd ps ds)(hd:Vals dvs ds)(hx:zb6 CX X E)
   (hdb:(x==("__debug__":Str))=false:=by decide):PE X (.Call (.Name x p) [] [] pos) (zrl C sp dvs E zyr):=by
 intro pins s σ H Q I h;refine z3h (kn I hg hm ?_ hdb);exact z46 I.kIn M.kp (ziu (us:=[]) M F hr hb hd hx I .nil h)
end
structure FnScope (N P:List Str) (sc:Scope):Prop where
 kind:sc.kind=.function
 co:sc.isCoroutine=false
 gen:sc.isGenerator=false
 nd:N.Nodup
 pre:N.take P.length=P
 par:∀x∈P,sc.names.lookup x=some .local\/sc.names.lookup x=some .cell
 nofree:∀y∈sc.names,y.2≠.free
theorem zhd{kindOf:Str->Option NameKind}{x:Str}:∀{binds:List (Str×Value)}{m:zMg},(∀v,(x,v)∉binds)->bindL kindOf binds m x=m x
 | [],_,_=>rfl
 | (n,v)::r,m,h=>by
   unfold bindL;rw[zhd fun w hw=>h w (z2e _ hw)];split
   · have:x≠n:=by rintro rfl;exact h v z2z
     simp[this]
   · rfl
theorem zhf{kindOf:Str->Option NameKind}{x:Str}:∀{binds:List (Str×Value)}{m:zMg},(∀v,(x,v)∉binds)->bindC kindOf binds m x=m x
 | [],_,_=>rfl
 | (n,v)::r,m,h=>by
   unfold bindC;rw[zhf fun w hw=>h w (z2e _ hw)];split
   · rfl
   · have:x≠n:=by rintro rfl;exact h v z2z
     simp[this]
theorem zhe{kindOf:Str->Option NameKind}{x:Str}{v:Value}:∀{P:List Str}{vs:List Value}{i:Nat}{m:zMg},P.Nodup->P[i]? = some x->vs[i]? = some v->kindOf x=some .local ->
   bindL kindOf (P.zip vs) m x=some v
 | [],_,_,_,_,h,_,_=>by simp at h
 |_::_,[],_,_,_,_,h,_=>by simp at h
 | p::P,w::vs,0,m,nd,h1,h2,hk=>by simp at h1 h2;subst h1;subst h2;show bindL kindOf ((p,w)::P.zip vs) m p=_;unfold bindL;rw[zhd fun v hv=>(z47.mp nd).1 (z5u hv).1,z2v hk];simp
 | p::P,w::vs,i+1,m,nd,h1,h2,hk=>by show bindL kindOf ((p,w)::P.zip vs) m x=_;unfold bindL;exact zhe (i:=i) (z47.mp nd).2 (by simpa using h1) (by simpa using h2) hk
theorem zhg{kindOf:Str->Option NameKind}{x:Str}{v:Value}:∀{P:List Str}{vs:List Value}{i:Nat}{m:zMg},P.Nodup->P[i]? = some x->vs[i]? = some v->kindOf x≠some .local ->
   bindC kindOf (P.zip vs) m x=some v
 | [],_,_,_,_,h,_,_=>by simp at h
 |_::_,[],_,_,_,_,h,_=>by simp at h
 | p::P,w::vs,0,m,nd,h1,h2,hk=>by simp at h1 h2;subst h1;subst h2;show bindC kindOf ((p,w)::P.zip vs) m p=_;unfold bindC;rw[zhf fun v hv=>(z47.mp nd).1 (z5u hv).1,z2w hk];simp
 | p::P,w::vs,i+1,m,nd,h1,h2,hk=>by show bindC kindOf ((p,w)::P.zip vs) m x=_;unfold bindC;exact zhg (i:=i) (z47.mp nd).2 (by simpa using h1) (by simpa using h2) hk
def start(N:List Str)(vs:List V):St:=vs.map some++List.replicate (N.length-vs.length) none
def zd8(CX:CXT)(P:Program)(w:World)(K:zFr)(mg:zMg)(base:Heap)(N:List Str)(qual:Str)(scope:Scope)(f:Addr)(cd:Value)(A:Around)(outer:List Env)(s:Shared)(H:Hp)(E:XK):Cx where
 prog:=P
 w:=w
 K:=K
 mg:=mg
 base:=base
 A:=A.deeper (envOfC qual scope s.heap.objs.size f cd)
 N:=N
 s₀:=s
 H₀:=H
 env:=envOfC qual scope s.heap.objs.size f cd
 outer:=outer
 stack:=envOfC qual scope s.heap.objs.size f cd::outer
 ex:=[]
 calm:=true
 fn:=fun _=>true
 pn:=[]
 xe:=fun e s'=>wpAny (model P w) (A.deeper (envOfC qual scope s.heap.objs.size f cd)) (leaving (envOfC qual scope s.heap.objs.size f cd) e) (fun _ s''=>CX outer H s E e s'') (fun e' s''=>CX outer H s E e' s'') s'
theorem zjn{sc:Scope}{n:Nat}{x:Str}(h:sc.names.lookup x=some .cell):∃c,(cellsFrom n sc.names []).lookup x=some c:=by have q:=PySem.W.cellsFrom_some sc.names n [] (.inl h);exact z3r.mp q
theorem zmq{CX:CXT}{P:Program}{w:World}{K:zFr}{mg:zMg}{base:Heap}{N ps:List Str}{qual:Str}{scope:Scope}{f:Addr}{cd:Value}{A:Around}{outer:List Env}{s s1:Shared}{H:Hp}{E:XK}{us:List Value}{vs:List V}
   (S:FnScope N ps scope) (hd:A.handled=none) (e0:Env0 P w K mg base A outer s H) (hl:vs.length=ps.length) (r:Vals vs us)
   (x:InCallC s s.heap.objs.size (bindL (envOfC qual scope s.heap.objs.size f cd).kindOf (ps.zip us) fun _=>none) (cellsFrom (s.heap.objs.size+1) scope.names []) (bindC (envOfC qual scope s.heap.objs.size f cd).kindOf (ps.zip us) fun _=>none) s1) :
   Inv (zd8 CX P w K mg base N qual scope f cd A outer s H E) [] (start N vs) H s1:=by
 have hpl:ps.length<=N.length:=by have:=z30 List.length S.pre;rw[z2d]at this;omega
 obtain⟨h1,tk,rfl,hk⟩:=x.done;have noA:∀b:Addr,b∉(zd8 CX P w K mg base N qual scope f cd A outer s H E).ex:=fun b z=>absurd (show b∈([]:List Addr)from z) (by simp);refine⟨⟨e0.mod,S.kind,rfl,rfl,z16 _,fun y z c h1 h2=>?_,fun y hy=>?_,fun y c _ h=>?_,fun _=>hd,Around.frames_deeper e0.frames,.inr ⟨rfl,rfl⟩,fun b z=>absurd z (noA b),e0.bs,e0.bsz,fun b _ _=>noA b,fun b z=>absurd z (noA b),e0.funs,e0.frf⟩,
   rfl,e0.bare,Un.kept hk,⟨_,x.toInCall.ns,fun i y v h1 h2 h3=>?_⟩,fun y c h=>⟨_,x.cell y c h⟩,e0.hok.fresh (z16 _),fun y c h=>?_,fun p hp=>absurd (show p∈([]:zAO)from hp) (by simp),e0.hok.kept hk,?_⟩
 · exact name_of_addr x.apart (z35 h1) (z35 h2)
 · have hy:scope.names.lookup y=some .cell\/scope.names.lookup y=some .free:=hy;rcases hy with hy | hy
   · exact zjn hy
   · exact absurd rfl (S.nofree _ (z35 hy))
 · exact z3u (x.above y c (z35 h))
 · have hi:i<vs.length:=by
     unfold start at h2;by_cases hi:i<vs.length
     · exact hi
     · rw[z2j (by simpa using hi)]at h2;rw[List.getElem?_replicate]at h2;split at h2<;>cases h2
   have ha:vs[i]? = some v:=by
     unfold start at h2;rw[z2k (by simpa using hi),z3l]at h2;cases e:vs[i]? with
     |none=>rw[e]at h2;cases h2
     |some a=>rw[e]at h2;cases h2;rfl
   obtain⟨u,hu,rv⟩:=r.get ha;have hp:ps[i]? = some y:=by rw[<-S.pre,z3s (by omega)];exact h1
   have ndP:ps.Nodup:=by rw[<-S.pre];exact S.nd.sublist (List.take_sublist _ _)
   refine⟨u,rv,?_⟩;rcases S.par y (z4c hp)with k | k
   · exact .inl ⟨k,zhe ndP hp hu k⟩
   · obtain⟨c,e⟩:=zjn (n:=s.heap.objs.size+1) k;refine .inr ⟨.inl k,c,e,?_⟩;have q:=x.cell y c e;rw[zhg ndP hp hu (by show scope.names.lookup y≠_;rw[k];decide)]at q;exact q
 · exact e0.hok.fresh (z3u (x.above y c (z35 h)))
 · unfold start;show _=N.length;rw[z13,z45,List.length_replicate];omega
theorem ztq{CX:CXT}{P:Program}{w:World}{K:zFr}{mg:zMg}{base:Heap}{k:Nat}{f:Addr}{name qual:Str}{params:Arguments}{body:List Stmt}{scope:Scope}{dV kV doc pm cdv ct oc:Value}{an od:Option Addr}
   {osl:Array (Option Value)}{N ps:List Str}{sp:Sp} (lk:K.lookup f=some ⟨oc,od,.func (PySem.W.fnOf name qual params body scope dV kV doc pm an cdv ct),osl⟩) (hcd:PySem.W.codeIn K cdv qual=true) (S:FnScope N ps scope)
   (len:∀vs H Q E,sp vs H Q E->vs.length=ps.length)
   (hbody:∀(A:Around) (outer:List Env) (s:Shared) (H:Hp) (vs:List V) (Q:VK) (E:XK),Room k (A.deeper (envOfC qual scope s.heap.objs.size f cdv))->sp vs H Q E ->
     ∃t,PSs (zd8 CX P w K mg base N qual scope f cdv A outer s H E) body t/\t { nx:=fun _ H'=>Q .non H',rt:=Q } (start N vs) H) :
   FnOk P w K mg base CX (k+1) f (PySem.W.fnOf name qual params body scope dV kV doc pm an cdv ct) ps sp:=by
 refine⟨len,fun A outer s H args us vs Q E hr e0 hb r hsp=>?_⟩;have hl:=len _ _ _ _ hsp;have KX:K.In s.heap:=e0.mod.kin.keeps fun b o e=>(e0.bs b o e).1;have lim:s.heap.NoLimit:=e0.mod.nolimit.keeps fun b o e=>(e0.bs b o e).1;have hkind:∀y∈ps.zip us,scope.names.lookup y.1=some .local\/(scope.names.lookup y.1=some .cell/\((cellsFrom (s.heap.objs.size+1) scope.names []).lookup y.1).isSome=true):=fun⟨n,v⟩ hy=>by
   rcases S.par n (z5u hy).1 with q | q
   · exact .inl q
   · exact .inr ⟨q,PySem.W.cellsFrom_some _ _ _ (.inl q)⟩
 refine codeAny_call_function hr.depth (KX _ _ lk) rfl S.co S.gen rfl (PySem.W.codeRec_of KX hcd) (hb _ _ _ _ ?_);refine wpAny_newFunctionEnv_cells S.kind hkind fun env he s1 x=>?_;subst he;refine⟨lim.keeps x.toInCall.keep,codeAny_func ?_⟩;obtain⟨t,ht,hq⟩:=hbody A outer s H vs Q E (hr.deeper _) hsp;have I:Inv (zd8 CX P w K mg base N qual scope f cdv A outer s H E) [] (start N vs) H s1:=zmq S hr.hd e0 hl r x;refine z43 (ht [] s1 (start N vs) H _ I hq) (fun fl s' hs=>?_) fun e s' hs=>hs;have fin:∀{σ':St}{H':Hp}{v:V}{u:Value},Inv (zd8 CX P w K mg base N qual scope f cdv A outer s H E) [] σ' H' s'->RelV v u->Q v H'->CE outer P w H s Q u s' :=
   fun {σ' H' v u} J rv q=>⟨v,H',J.os,J.bare,J.base,J.hok,rv,q⟩
 cases fl with
 | ret u=>
   obtain⟨v,σ',H',J,rv,q⟩:=hs;exact fin J rv q
 | next=>
   obtain⟨σ',H',J,q⟩:=hs;exact fin (v:=V.non) (u:=Value.none) J rfl q
 | brk=>
   obtain⟨_,_,_,q⟩:=hs;exact False.elim q
 | cont=>
   obtain⟨_,_,_,q⟩:=hs;exact False.elim q
section
variable {X:Cx}{x:Str}{p pos:Pos}{e:Expr}{es:List Expr}{t:TA}{id T:String}{r:List V->Hp->VK->Prop}
def tCB(r:List V->Hp->VK->Prop)(t:TA):TE:=fun σ H Q=>t σ H fun vs H1=>r vs H1 Q
theorem zo0(hc:CallR X (.builtin id) r)(hg:Gl X x)(hm:X.mg x=none)(hv:bootBuiltins x=some (.builtin id))(ha:PA X (e::es) t)(hn:x≠"__name__":=by decide)(hdb:(x==("__debug__":Str))=false:=by decide)
   (he:starEach (e::es) X.env=(false,eval e X.env)::starEach es X.env:=by rfl) (hpl:(backTo pos (starEach es X.env)).any (·.1)=false:=by rfl):PE X (.Call (.Name x p) (e::es) [] pos) (tCB r t):=by
 intro pins s σ H Q I h;refine z3h (zen I hg hm hv ?_ hn hdb);exact PyProof.Rows.callWith_builtin1 (thn (ha pos pins s σ H _ I h) fun us s1 ⟨vs,H1,I1,r1,q1⟩=>hc pins s1 σ H1 vs us Q I1 r1 q1) he hpl
theorem zgn(hc:CallR X (.type T) r)(hg:Gl X x)(hm:X.mg x=none)(hv:bootBuiltins x=some (.type T))(ha:PA X (e::es) t)(hn:x≠"__name__":=by decide)(hdb:(x==("__debug__":Str))=false:=by decide)
   (he:starEach (e::es) X.env=(false,eval e X.env)::starEach es X.env:=by rfl) (hpl:(backTo pos (starEach es X.env)).any (·.1)=false:=by rfl):PE X (.Call (.Name x p) (e::es) [] pos) (tCB r t):=by
 intro pins s σ H Q I h;refine z3h (zen I hg hm hv ?_ hn hdb);exact z3v (thn (ha pos pins s σ H _ I h) fun us s1 ⟨vs,H1,I1,r1,q1⟩=>hc pins s1 σ H1 vs us Q I1 r1 q1) he hpl
end
end L2
namespace HT
open PySem PyProof.Rows
section
open PySem.SeqAt
open PySem.AutoSeq1 (wpAny_loadPart')
open PySem.MeetsSeq PySem.MeetsSeq2 PySem.MeetsSeq3
end
section
variable {prog:Program}{w:World}{A:Around}{E:zVP}{s:Shared}
theorem cat_tup{t b:Addr}{vs ws:List Value}{Q:zVP}(ht:IsTup s.heap t vs.toArray)(hb:IsTup s.heap b ws.toArray)(hv:vs≠[])
   (h1:ws=[]->Q (.ref t) s) (h2:ws≠[]->Q (.ref s.heap.objs.size) { s with heap:=s.heap.push { cls:=.type "tuple",data:=.seq (vs++ws).toArray } })
   (hsz:vs.length+ws.length<=sizeLine):wpAny (model prog w) A (binaryOp .Add (.ref t) (.ref b)) Q E s:=by
 obtain⟨⟨cls,dd,data,sl⟩,ho,hc,n,hd⟩:=id ht;obtain⟨⟨cls2,dd2,data2,sl2⟩,ho2,hc2,n2,hd2⟩:=id hb;simp only at hc hd hc2 hd2;subst hc hd hc2 hd2;have e:vs.toArray++ws.toArray=(vs++ws).toArray:=by simp
 by_cases hw:ws=[]
 · exact z5v ⟨_,ho,rfl⟩ ⟨_,ho2,rfl⟩ noFill_tuple_add seq_tuple_add z4s z4o (z4j _ _)
     (tuple_addW1 t b vs.toArray ws.toArray n n2 dd dd2 sl sl2 (by simpa using hv) (by simp[hw])) ⟨ho,ho2,h1 hw⟩
 · refine z5v ⟨_,ho,rfl⟩ ⟨_,ho2,rfl⟩ noFill_tuple_add seq_tuple_add z4s z4o (z4j _ _)
     (tuple_addW2 t b vs.toArray ws.toArray n n2 dd dd2 sl sl2 (by simpa using hv) (by simpa using hw) (by rw[z17,z17];exact hsz)) ⟨ho,ho2,?_⟩
   rw[e];exact h2 hw
def sIx(n d:Nat):Option Int->Nat
 |none=>d
 |some v=>if v<0 then (v+(n:Int)).toNat else min v.toNat n
theorem zvd(n d:Nat)(hd:d<=n)(o:Option Int):sIx n d o<=n:=by
 cases o with
 |none=>exact hd
 | some v=>
   show(if v<0 then (v+(n:Int)).toNat else min v.toNat n)<=n;by_cases hv:v<0
   · rw[z2v hv];omega
   · rw[z2w hv];exact Nat.min_le_right _ _
theorem znn(v:Int)(n d:Nat):(if v<0 then max (v+(n:Int)) 0 else min v (n:Int))=((sIx n d (some v):Nat):Int):=by
 show(if v<0 then max (v+(n:Int)) 0 else min v (n:Int))=(((if v<0 then (v+(n:Int)).toNat else min v.toNat n):Nat):Int)
 by_cases hv:v<0
 · simp only[z2v hv];omega
 · simp only[z2w hv];omega
theorem zkm(lo hi:Option Int)(n:Nat):Builtin.Slice.sliceAdjust lo hi 1 (n:Int)=(((sIx n 0 lo:Nat):Int),((sIx n n hi:Nat):Int)):=by
 have h1:¬ ((1:Int)<0):=by omega
 unfold Builtin.Slice.sliceAdjust;simp only[h1,z36];refine Prod.ext ?_ ?_
 · cases lo with
   |none=>rfl
   |some v=>exact znn v n 0
 · cases hi with
   |none=>rfl
   |some v=>exact znn v n n
theorem zj2(i j:Nat):Builtin.Slice.slicePlaces (i:Int) (j:Int) 1=j-i:=by
 unfold Builtin.Slice.slicePlaces;have h1:(1:Int)>0:=by omega
 simp only[h1,z37,Int.ediv_one];split<;>omega
theorem zej{v:Value}{o:Option Int}{Q:Option Int->Shared->Prop}(p:IsPart v o)(h:Q o s):wpAny (model prog w) A (Builtin.Slice.slicePartIndex v) Q E s:=by
 cases p with
 |none=>exact slicePart_none h
 |int i t=>exact slicePart_int h
theorem zcn{sl:Addr}{vl vu:Value}{lo hi:Option Int}{n:Nat}{Q:Int×Int×Nat->Shared->Prop}(hs:s.heap.IsSliceOf sl vl vu .none)(pl:IsPart vl lo)(pu:IsPart vu hi)
   (h:Q (((sIx n 0 lo:Nat):Int),1,sIx n n hi-sIx n 0 lo) s):wpAny (model prog w) A (Builtin.Slice.sliceApplied (.ref sl) (pure (n:Int))) Q E s:=by
 obtain⟨os,hos,hcs,hds⟩:=id hs;unfold Builtin.Slice.sliceApplied Builtin.Slice.sliceFields;refine z12 (z12 (z4g hos hds (x:=vl) rfl (z12 (z4g hos hds (x:=vu) rfl (z12 (z4g hos hds (x:=.none) rfl (z2a ?_)))))));refine z12 (slicePart_none ?_);show wpAny _ _ (if((1:Int)==0)=true then _ else _) _ _ s;rw[z2w (by decide)];refine z12 (zej pl (z12 (zej pu (z12 (z2a ?_)))));show wpAny _ _ (match Builtin.Slice.sliceAdjust lo hi 1 (n:Int)with | (lo,hi)=>pure (lo,(1:Int),Builtin.Slice.slicePlaces lo hi 1)) _ _ s;rw[zkm lo hi n];show wpAny _ _ (pure (((sIx n 0 lo:Nat):Int),(1:Int),Builtin.Slice.slicePlaces ((sIx n 0 lo:Nat):Int) ((sIx n n hi:Nat):Int) 1)) _ _ s;rw[zj2];exact z2a h
theorem zov(xs:Array Value)(i k:Nat):((List.range k).filterMap fun(m:Nat)=>xs[((i:Int)+(m:Int)*1).toNat]?).toArray=((xs.toList.drop i).take k).toArray:=by
 have e:(fun(m:Nat)=>xs[((i:Int)+(m:Int)*1).toNat]?)=fun m=>xs[i+m]?:=by
   funext m;have:((i:Int)+(m:Int)*1).toNat=i+m:=by omega
   rw[this]
 rw[e];have:=pick_run xs i k;rw[List.filterMap_map]at this;have e2:((fun x=>xs[x]?)∘fun x=>i+x)=fun m=>xs[i+m]?:=rfl;rw[e2]at this;rw[this]
theorem getItem_tuple_cut{t sl:Addr}{items:Array Value}{vl vu:Value}{lo hi:Option Int}{Q:zVP}(ht:IsTup s.heap t items)(hs:s.heap.IsSliceOf sl vl vu .none)(pl:IsPart vl lo)(pu:IsPart vu hi)
   (hw:¬ (sIx items.size 0 lo=0/\sIx items.size items.size hi=items.size))
   (h:Q (.ref s.heap.objs.size) { s with heap:=s.heap.push { cls:=.type "tuple",data:=.seq ((items.toList.drop (sIx items.size 0 lo)).take (sIx items.size items.size hi-sIx items.size 0 lo)).toArray } })
   (hsz:items.size<=sizeLine):wpAny (model prog w) A (getItem (.ref t) (.ref sl)) Q E s:=by
 have htake:sizeOk (.seq ((items.toList.drop (sIx items.size 0 lo)).take (sIx items.size items.size hi-sIx items.size 0 lo)).toArray):=by show((items.toList.drop (sIx items.size 0 lo)).take (sIx items.size items.size hi-sIx items.size 0 lo)).toArray.size<=sizeLine;rw[z17,z2d,z2s,Array.length_toList];omega
 have hj:sIx items.size items.size hi<=items.size:=zvd _ _ (z16 _) hi;obtain⟨os,hos,hcs,hds⟩:=id hs;have hTs:s.TypeIs (.ref sl) "slice":=⟨os,hos,hcs⟩
 unfold getItem
 try with_reducible refine wpAny_holding ?_
 first | refine z12 (z2a ?_) | skip
 refine z12 (wpAny_sequenceKey ht.typeIs (by decide) ?_);refine z12 (wpAny_callSpecial?_slot (name:=Str.ofString "__getitem__") ht.typeIs z33
   (wpAny_call_entry z33 ht.typeIs entry_tuple_getitem ?_ (args_tuple_getitem _ _)))
 show wpAny _ _ (Builtin.Tuple.tupleItemsOf (.ref t) >>= _) _ _ s;refine z12 (tupleItemsOf_ ht ?_);refine z12 (wpAny_typeOf hTs ?_);rw[z2v (by decide)];refine z12 (zcn hs pl pu ?_);have hno:¬ ((((sIx items.size 0 lo:Nat):Int)==0&&(1:Int)==1&&(sIx items.size items.size hi-sIx items.size 0 lo)==items.size)=true):=by intro q;rw[z2t,z2t]at q;have q1:((sIx items.size 0 lo:Nat):Int)=0:=eq_of_beq q.1.1;have q2:sIx items.size items.size hi-sIx items.size 0 lo=items.size:=eq_of_beq q.2;exact hw ⟨by omega,by omega⟩
 show wpAny _ _ (if(((sIx items.size 0 lo:Nat):Int)==0&&(1:Int)==1&&(sIx items.size items.size hi-sIx items.size 0 lo)==items.size)=true then _ else _) _ _ s;rw[z2w hno,zov]
 first
   |exact z12 (m:=Builtin.Tuple.tupleExact _) (z34 (z2a ⟨_,rfl,z2a h⟩) htake)
   |exact z12 (m:=Builtin.Tuple.tupleExact _) (z34 (z12 (z2a (z2a ⟨_,rfl,z2a h⟩))) htake)
   |exact z12 (z12 (m:=Builtin.Tuple.tupleExact _) (z34 (z2a (z2a ⟨_,rfl,z2a h⟩)) htake))
   |exact z12 (z12 (m:=Builtin.Tuple.tupleExact _) (z34 (z2a ⟨_,rfl,z2a h⟩) htake))
end
end HT
namespace L2
open PySem PySem.Spec PyProof.Rows
abbrev TO:=St->Hp->(Option Int->Hp->Prop)->Prop
def PO(X:Cx)(e:Option Expr)(t:TO):Prop :=
 ∀(pins:zAO) (s:Shared) (σ:St) (H:Hp) (Q:Option Int->Hp->Prop),Inv X pins σ H s->t σ H Q ->
   wpAny (model X.prog X.w) X.A (evalPart e X.env) (fun u s'=>∃o H',Inv X pins σ H' s'/\IsPart u o/\Q o H') X.xe s
def zrk:TO:=fun _ H Q=>Q none H
def zyp(t:TE):TO:=fun σ H Q=>t σ H fun x H1=>∃i,x=.int i/\Q (some i) H1
section
variable {X:Cx}{e:Expr}{te:TE}{lo hi:Option Expr}{tl th:TO}{pos p2:Pos}
theorem zss:PO X none zrk:=by intro pins s σ H Q I h;rw[evalPart_none];exact z2a ⟨none,H,I,.none,h⟩
theorem zsr(h:PE X e te):PO X (some e) (zyp te):=by intro pins s σ H Q I hw;rw[evalPart_some];refine thn (h pins s σ H _ I hw) fun u s1 ⟨x,H1,I1,r1,q1⟩=>?_;obtain⟨i,rfl,q⟩:=q1;obtain⟨t,rfl⟩:=r1;exact⟨some i,H1,I1,.int i t,q⟩
def SlR(X:Cx)(r:V->Option Int->Option Int->Hp->VK->Prop):Prop :=
 ∀(pins:zAO) (s:Shared) (σ:St) (H:Hp) (x:V) (v vl vu:Value) (lo hi:Option Int) (sl:Addr) (Q:VK),Inv X pins σ H s->RelV x v->s.heap.IsSliceOf sl vl vu .none->IsPart vl lo->IsPart vu hi->r x lo hi H Q ->
   ∃T id,typeLookup (.type T) "__getitem__"=pure (some (.builtin id))/\s.TypeIs v T/\wpAny (model X.prog X.w) X.A (getItem v (.ref sl)) (EP X pins σ Q) X.xe s
theorem SlR.or{r r':V->Option Int->Option Int->Hp->VK->Prop}(h:SlR X r)(h':SlR X r'):SlR X (fun x lo hi H Q=>r x lo hi H Q\/r' x lo hi H Q):=by
 intro pins s σ H x v vl vu lo hi sl Q I rx hs pl pu q;rcases q with q | q
 · exact h pins s σ H x v vl vu lo hi sl Q I rx hs pl pu q
 · exact h' pins s σ H x v vl vu lo hi sl Q I rx hs pl pu q
def tSl(r:V->Option Int->Option Int->Hp->VK->Prop)(te:TE)(tl th:TO):TE:=fun σ H Q=>te σ H fun x H1=>tl σ H1 fun l H2=>th σ H2 fun u H3=>r x l u H3 Q
theorem zox{r:V->Option Int->Option Int->Hp->VK->Prop}(hr:SlR X r)(he:PE X e te)(hl:PO X lo tl)(hu:PO X hi th):PE X (.Subscript e (.Slice lo hi none p2) pos) (tSl r te tl th):=by intro pins s σ H Q I h;refine Subscript_ (thn (he pins s σ H _ I h) fun v s1 ⟨x,H1,I1,r1,q1⟩=>?_);refine wpAny_Slice (thn (hl pins s1 σ H1 _ I1 q1) fun vl s2 ⟨l,H2,I2,pl,q2⟩=>thn (hu pins s2 σ H2 _ I2 q2) fun vu s3 ⟨u,H3,I3,pu,q3⟩=>?_);rw[evalPart_none];refine z2a ?_;have I4:Inv X pins σ H3 { s3 with heap:=s3.heap.push { cls:=.type "slice",data:=.fields #[vl,vu,.none] } }:=I3.kept (t':=s3.toks) fun b ob q=>z14 _ q;obtain⟨T,id,hT,ht,hg⟩:=hr pins { s3 with heap:=s3.heap.push { cls:=.type "slice",data:=.fields #[vl,vu,.none] } } σ H3 x v vl vu l u s3.heap.objs.size Q I4 r1 (Heap.IsSliceOf.new ..) pl pu q3;show wpAny (model X.prog X.w) X.A (subscriptTail e (.Slice lo hi none p2) v (.ref s3.heap.objs.size)) (EP X pins σ Q) X.xe { s3 with heap:=s3.heap.push { cls:=.type "slice",data:=.fields #[vl,vu,.none] } };exact tail_any (ops:=[.ref s3.heap.objs.size,v]) ht hT hg (by with_unfolding_all rfl)
def zq5(xs:List V)(lo hi:Option Int):List V:=(xs.drop (HT.sIx xs.length 0 lo)).take (HT.sIx xs.length xs.length hi-HT.sIx xs.length 0 lo)
theorem zdy(xs:List V)(lo hi:Option Int):(zq5 xs lo hi).length<=xs.length:=by unfold zq5;rw[z2d,z2s];omega
def z1m(K:zFr):V->Option Int->Option Int->Hp->VK->Prop:=fun x lo hi H Q=>∃a xs,x=.ref a/\SqT K H a xs /\
 ¬ (HT.sIx xs.length 0 lo=0/\HT.sIx xs.length xs.length hi=xs.length)/\∀p,H p=none->Q (.ref p) (upd H p (.tup (zq5 xs lo hi)))
theorem zu3:SlR X (z1m X.K):=by
 intro pins s σ H x v vl vu lo hi sl Q I rx hs pl pu h;obtain⟨a,xs,rfl,hx,hw,q⟩:=h;cases rx;obtain⟨its,r,ht,hz⟩:=I.tuple hx;have hlen:its.toArray.size=xs.length:=by rw[z17];exact r.length.symm
 refine⟨"tuple",_,z33.lookup,ht.typeIs,?_⟩;refine HT.getItem_tuple_cut ht hs pl pu (by rw[hlen];exact hw) ?_ (by rw[hlen];exact hz);rw[hlen];refine⟨.ref s.heap.objs.size,_,I.laid (t':=s.toks) (o:=.tup (zq5 xs lo hi)) (fun b ob q=>z14 _ q) (z16 _) ?_,rfl,q _ (I.hok.fresh (z16 _))⟩;exact⟨z2h (zdy xs lo hi) hz,_,(r.drop (HT.sIx xs.length 0 lo)).take (HT.sIx xs.length xs.length hi-HT.sIx xs.length 0 lo),IsTup.new _ _⟩
def zvk(K:zFr):R2:=fun x y H Q=>∃a b xs ys,x=.ref a/\y=.ref b/\SqT K H a xs/\SqT K H b ys/\xs≠[]/\xs.length+ys.length<=sizeLine /\
 (ys=[]->Q (.ref a) H)/\(ys≠[]->∀p,H p=none->Q (.ref p) (upd H p (.tup (xs++ys))))
theorem Vals.nil_iff{xs:List V}{us:List Value}(r:Vals xs us):us=[]↔xs=[]:=by
 cases r with
 |nil=>simp
 |cons _ _=>simp
theorem op_catT:OpR X (binaryOp .Add) (zvk X.K):=by intro pins s σ H x y v u Q I rx ry h;obtain⟨a,b,xs,ys,rfl,rfl,ha,hb,hx,hz,q1,q2⟩:=h;cases rx;cases ry;obtain⟨its,r1,p1,_⟩:=I.tuple ha;obtain⟨its2,r2,p2,_⟩:=I.tuple hb;refine HT.cat_tup p1 p2 (fun z=>hx (r1.nil_iff.mp z)) (fun z=>⟨.ref a,H,I,rfl,q1 (r2.nil_iff.mp z)⟩) (fun z=>?_) (by rw[<-r1.length,<-r2.length];exact hz);refine⟨.ref s.heap.objs.size,_,I.laid (t':=s.toks) (o:=.tup (xs++ys)) (fun b ob q=>z14 _ q) (z16 _) ?_,rfl,q2 (fun w=>z (r2.nil_iff.mpr w)) _ (I.hok.fresh (z16 _))⟩;exact⟨by rw[z13];exact hz,_,r1.append r2,IsTup.new _ _⟩
end
def ixN(n:Nat)(i:Int):Option Nat:=if 0<=i then (if i<n then some i.toNat else none)else if -(n:Int)<=i then some (i+n).toNat else none
def atI{α:Type}(xs:List α)(i:Int):Option α:=(ixN xs.length i).bind fun j=>xs[j]?
theorem zte{n:Nat}{i:Int}{j:Nat}(h:ixN n i=some j):seqIndex? i n=some j/\j<n/\-(n:Int)<=i/\i<n:=by
 unfold ixN at h;by_cases h0:0<=i
 · rw[z2v h0]at h;by_cases h1:i<n
   · rw[z2v h1]at h;have e:i.toNat=j:=z2n h;exact⟨by rw[seqIndex_of h0 h1,e],by omega,by omega,h1⟩
   · rw[z2w h1]at h;cases h
 · rw[z2w h0]at h;by_cases h1:-(n:Int)<=i
   · rw[z2v h1]at h;have e:(i+n).toNat=j:=z2n h;exact⟨by rw[seqIndex_neg (by omega) h1,e],by omega,h1,by omega⟩
   · rw[z2w h1]at h;cases h
theorem zih{α:Type}{xs:List α}{i:Int}{v:α}(h:atI xs i=some v):∃j,seqIndex? i xs.length=some j/\xs[j]? = some v/\j<xs.length/\-(xs.length:Int)<=i/\i<xs.length:=by
 unfold atI at h;cases e:ixN xs.length i with
 |none=>rw[e]at h;cases h
 | some j=>
   rw[e]at h;obtain⟨h1,h2,h3,h4⟩:=zte e;exact⟨j,h1,h,h2,h3,h4⟩
theorem zd3{α:Type}{xs:List α}{j:Nat}{v:α}(h:xs[j]? = some v):atI xs (j:Int)=some v:=by
 have hj:j<xs.length:=(z15.mp h).1;have e:ixN xs.length (j:Int)=some j:=by unfold ixN;rw[z2v (by omega),z2v (by omega)];simp
 unfold atI;rw[e];exact h
def zn2(b:Expr):Prop:=∀o i,subscripted b false o i=operate [o,i] (getItem o i)
def IxR(X:Cx)(r:R2):Prop :=
 ∀(value slice:Expr) (pins:zAO) (s:Shared) (σ:St) (H:Hp) (x y:V) (v u:Value) (Q:VK),Inv X pins σ H s->RelV x v->RelV y u->r x y H Q ->
   subscripted slice false v u=operate [v,u] (getItem v u)->wpAny (model X.prog X.w) X.A (subscriptTail value slice v u) (EP X pins σ Q) X.xe s
def MtR(X:Cx)(id:String)(r:V->List V->Hp->VK->Prop):Prop :=
 ∀(pins:zAO) (s:Shared) (σ:St) (H:Hp) (x:V) (xs:List V) (v:Value) (us:List Value) (Q:VK),Inv X pins σ H s->RelV x v->Vals xs us->r x xs H Q ->
   wpAny (model X.prog X.w) X.A (call (.builtin id) (v::us)) (EP X pins σ Q) X.xe s
section
variable {X:Cx}{a b:Expr}{ta tb:TE}{pos:Pos}
theorem IxR.or{r r':R2}(h:IxR X r)(h':IxR X r'):IxR X (fun x y H Q=>r x y H Q\/r' x y H Q):=by
 intro value slice pins s σ H x y v u Q I rx ry q hs;rcases q with q | q
 · exact h value slice pins s σ H x y v u Q I rx ry q hs
 · exact h' value slice pins s σ H x y v u Q I rx ry q hs
theorem zze{r:R2}(hr:IxR X r)(ha:PE X a ta)(hb:PE X b tb)(hs:zn2 b):PE X (.Subscript a b pos) (tOp r ta tb):=by intro pins s σ H Q I h;exact Subscript_ (z0k ha hb I h fun v u s2 x y H2 I2 rx ry q=>hr a b pins s2 σ H2 x y v u Q I2 rx ry q (hs _ _))
def z0s(K:zFr):R2:=fun x y H Q=>∃p xs i v,x=.ref p/\y=.int i/\SqL K H p xs/\atI xs i=some v/\Q v H
def z0q(K:zFr):R2:=fun x y H Q=>∃p xs i v,x=.ref p/\y=.int i/\SqT K H p xs/\atI xs i=some v/\Q v H
def z0r:R2:=fun x y H Q=>∃z i c,x=.str z/\y=.int i/\z.length<=sizeLine/\atI z.cps.toList i=some c/\Q (.str ⟨#[c]⟩) H
theorem ix_list:IxR X (z0s X.K):=by
 intro value slice pins s σ H x y v u Q I rx ry h hs;obtain⟨p,xs,i,z,rfl,rfl,hq,he,q⟩:=h;cases rx;obtain⟨t,rfl⟩:=ry;obtain⟨its,r,pl,hz⟩:=I.list hq;obtain⟨j,h1,h2,h3,h4,h5⟩:=zih he;obtain⟨w,ew,rw'⟩:=r.get h2;have hl:=r.length;have hn:=zgr;have fin:EP X pins σ Q w s:=⟨z,H,I,rw',q⟩
 by_cases h0:0<=i
 · have hj:i.toNat=j:=by rw[seqIndex_of h0 h5]at h1;exact z2n h1
   exact item_listR pl.isList h0 (by omega) (by rw[hj];simpa using ew) fin hs
 · have hj:(i+(its.toArray.size:Int)).toNat=j:=by rw[seqIndex_neg (by omega) h4]at h1;rw[z17,<-hl];exact z2n h1
   exact subscriptTail_builtinR (x:=w) pl.isList.typeIs slot_list_getitem.lookup
     (wpAny_getItem_list_neg (Q:=fun r s'=>r=w/\EP X pins σ Q r s') pl.isList (by omega) (by rw[z17]<;>omega) (by omega) (by rw[hj];simpa using ew) ⟨rfl,fin⟩) hs
theorem ix_tup:IxR X (z0q X.K):=by
 intro value slice pins s σ H x y v u Q I rx ry h hs;obtain⟨p,xs,i,z,rfl,rfl,hq,he,q⟩:=h;cases rx;obtain⟨t,rfl⟩:=ry;obtain⟨its,r,pl,hz⟩:=I.tuple hq;obtain⟨j,h1,h2,h3,h4,h5⟩:=zih he;obtain⟨w,ew,rw'⟩:=r.get h2;have hl:=r.length;have hn:=zgr;have fin:EP X pins σ Q w s:=⟨z,H,I,rw',q⟩
 exact subscriptTail_builtinR (x:=w) pl.typeIs slot_tuple_getitem.lookup
   (getItem_tuple (j:=j) (Q:=fun r s'=>r=w/\EP X pins σ Q r s') pl (by omega) (by omega) (by rw[z17,<-hl];exact h1) (by simpa using ew) ⟨rfl,fin⟩) hs
theorem zwu:IxR X z0r:=by
 intro value slice pins s σ H x y v u Q I rx ry h hs;obtain⟨z,i,c,rfl,rfl,hz,he,q⟩:=h;obtain⟨t,rfl⟩:=rx;obtain⟨t',rfl⟩:=ry;obtain⟨j,h1,h2,h3,h4,h5⟩:=zih he;have hl:z.cps.toList.length=z.length:=by simp[Str.length]
 rw[hl]at h1 h4 h5;have hn:=zgr;exact tail_any (typeIs_str s z t) slot_str_getitem.lookup (getItem_str (c:=c) (by
   have e1:decide (i < -(2^63:Int))=false:=z2b (by omega);have e2:decide (i ≥ 2^63)=false:=z2b (by omega);rw[e1,e2,Bool.or_false]) (by rw[h1];simpa using h2) ⟨.str ⟨#[c]⟩,H,I.tok _,⟨_,rfl⟩,q⟩) hs
def rIx(K:zFr):R2:=fun x y H Q=>z0s K x y H Q\/z0q K x y H Q\/z0r x y H Q
theorem zwv:IxR X (rIx X.K):=ix_list.or (ix_tup.or zwu)
theorem zge(lo hi:Option Int)(n:Nat):(sliceBounds lo hi none n).1=((HT.sIx n 0 lo:Nat):Int)/\(sliceBounds lo hi none n).2.1=((HT.sIx n n hi:Nat):Int)/\(sliceBounds lo hi none n).2.2=1:=by
 refine⟨?_,?_,rfl⟩
 · cases lo with
   |none=>simp[sliceBounds,HT.sIx]
   | some i=>
     simp only[sliceBounds,HT.sIx,Option.getD_none,show(1:Int)>0 by decide,z37];by_cases h:i<0
     · simp only[h,z37]<;>omega
     · simp only[h,z36]<;>omega
 · cases hi with
   |none=>simp[sliceBounds,HT.sIx]
   | some i=>
     simp only[sliceBounds,HT.sIx,Option.getD_none,show(1:Int)>0 by decide,z37];by_cases h:i<0
     · simp only[h,z37]<;>omega
     · simp only[h,z36]<;>omega
theorem ze2(its:List Value)(lo hi:Option Int):slicePick its.toArray lo hi none=((its.drop (HT.sIx its.length 0 lo)).take (HT.sIx its.length its.length hi-HT.sIx its.length 0 lo)).toArray:=by obtain⟨h1,h2,h3⟩:=zge lo hi its.toArray.size;unfold slicePick;rw[h1,h2,h3];simp only[sliceRange_one,pick_run,z17]<;>rfl
def z1n(K:zFr):V->Option Int->Option Int->Hp->VK->Prop:=fun x lo hi H Q=>∃a xs,x=.ref a/\SqL K H a xs/\∀p,H p=none->Q (.ref p) (upd H p (.lst (zq5 xs lo hi)))
theorem sl_list:SlR X (z1n X.K):=by intro pins s σ H x v vl vu lo hi sl Q I rx hs pl pu h;obtain⟨a,xs,rfl,hx,q⟩:=h;cases rx;obtain⟨its,r,ht,hz⟩:=I.list hx;have hlen:=r.length;refine⟨"list",_,slot_list_getitem.lookup,ht.isList.typeIs,?_⟩;refine wpAny_getItem_list_slice ht.isList hs pl pu .none (by simp) ?_ (by rw[z17]<;>omega);rw[ze2,<-hlen];refine⟨.ref s.heap.objs.size,_,I.laid (t':=s.toks) (o:=.lst (zq5 xs lo hi)) (fun b ob q=>z14 _ q) (z16 _) ?_,rfl,q _ (I.hok.fresh (z16 _))⟩;exact⟨z2h (zdy xs lo hi) hz,_,0,(r.drop (HT.sIx xs.length 0 lo)).take (HT.sIx xs.length xs.length hi-HT.sIx xs.length 0 lo),z2q _ rfl⟩
def zbu:V->Bool
 | .non=>true
 | .bl _=>true
 | .int _=>true
 | .str _=>true
 |_=>false
def eqV:V->V->Bool
 | .non,.non=>true
 | .bl a,.bl b=>a==b
 | .bl a,.int b=>(if a then 1 else 0)==b
 | .int a,.bl b=>a==(if b then 1 else 0)
 | .int a,.int b=>a==b
 | .str a,.str b=>a==b
 |_,_=>false
theorem znc{A:Around}{s:Shared}{y x:V}{u v:Value}(ry:RelV y u)(rx:RelV x v)(fy:zbu y=true)(fx:zbu x=true):SeqAt.EqAt A s u v (eqV y x):=by
 cases y with
 | non=>
   cases ry;cases x with
   |non=>cases rx;exact SeqAt.EqAt.same _
   |bl b=>cases rx;exact SeqAt.EqAt.none_bool b
   |int b=>obtain⟨t,rfl⟩:=rx;exact SeqAt.EqAt.none_int b t
   |str b=>obtain⟨t,rfl⟩:=rx;exact SeqAt.EqAt.none_str b t
   |_=>exact absurd (show false=true from fx) z3g
 | bl a=>
   cases ry;cases x with
   |non=>cases rx;exact SeqAt.EqAt.bool_none a
   |bl b=>cases rx;exact SeqAt.EqAt.bool_bool a b
   |int b=>obtain⟨t,rfl⟩:=rx;exact SeqAt.EqAt.bool_int a b t
   |str b=>obtain⟨t,rfl⟩:=rx;exact SeqAt.EqAt.bool_str a b t
   |_=>exact absurd (show false=true from fx) z3g
 | int a=>
   obtain⟨t',rfl⟩:=ry;cases x with
   |non=>cases rx;exact SeqAt.EqAt.int_none a t'
   |bl b=>cases rx;exact SeqAt.EqAt.int_bool a t' b
   |int b=>obtain⟨t,rfl⟩:=rx;exact SeqAt.EqAt.int_int a t' b t
   |str b=>obtain⟨t,rfl⟩:=rx;exact SeqAt.EqAt.int_str a t' b t
   |_=>exact absurd (show false=true from fx) z3g
 | str a=>
   obtain⟨t',rfl⟩:=ry;cases x with
   |non=>cases rx;exact SeqAt.EqAt.str_none a t'
   |bl b=>cases rx;exact SeqAt.EqAt.str_bool a t' b
   |int b=>obtain⟨t,rfl⟩:=rx;exact SeqAt.EqAt.str_int a t' b t
   |str b=>obtain⟨t,rfl⟩:=rx;exact SeqAt.EqAt.str_str a t' b t
   |_=>exact absurd (show false=true from fx) z3g
 |_=>exact absurd (show false=true from fy) z3g
def eqU(x:V)(u:Value):Bool:=match u with
 | .none=>eqV .non x
 | .bool b=>eqV (.bl b) x
 | .int i _=>eqV (.int i) x
 | .str z _=>eqV (.str z) x
 |_=>false
theorem zqz{x y:V}{u:Value}(r:RelV y u)(f:zbu y=true):eqU x u=eqV y x:=by
 cases y with
 |non=>cases r;rfl
 |bl b=>cases r;rfl
 |int i=>obtain⟨t,rfl⟩:=r;rfl
 |str z=>obtain⟨t,rfl⟩:=r;rfl
 |_=>exact absurd (show false=true from f) z3g
theorem zii{x:V}:∀{xs:List V}{us:List Value},Vals xs us->xs.all zbu=true->us.any (eqU x)=xs.any fun y=>eqV y x
 |_,_,.nil,_=>rfl
 | y::xs,u::us,.cons r t,f=>by rw[List.all_cons,z2t]at f;rw[List.any_cons,List.any_cons,zqz r f.1,zii t f.2]
theorem zfd{A:Around}{s:Shared}{x:V}{v:Value}(rx:RelV x v)(fx:zbu x=true):∀{xs:List V}{us:List Value},Vals xs us->xs.all zbu=true->∀u∈us,SeqAt.EqAt A s u v (eqU x u)
 |_,_,.nil,_=>fun u hu=>by cases hu
 | y::xs,u::us,.cons r t,f=>fun u' hu=>by
   rw[List.all_cons,z2t]at f;rcases z2l.mp hu with rfl | hu
   · rw[zqz r f.1];exact znc r rx f.1 fx
   · exact zfd rx fx t f.2 u' hu
def inV(x:V)(xs:List V):Bool:=xs.any fun y=>eqV y x
def rIn(K:zFr)(neg:Bool):R2:=fun x y H Q=>∃p xs,y=.ref p/\(SqL K H p xs\/SqT K H p xs)/\zbu x=true/\xs.all zbu=true/\Q (.bl (if neg then !inV x xs else inV x xs)) H
theorem zl3:OpR X (compareOp .In) (rIn X.K false):=by
 intro pins s σ H x y v u Q I rx ry h;obtain⟨p,xs,rfl,hq,fx,fs,q⟩:=h;cases ry;rcases hq with hq | hq
 · obtain⟨its,r,pl,hz⟩:=I.list hq;refine SeqAt.in_listAt (eqU x) pl.isList (fun w hw=>zfd rx fx r fs w (by simpa using hw)) ⟨.bl _,H,I,rfl,?_⟩;rw[show its.toArray.any (eqU x)=its.any (eqU x) by simp,zii r fs];exact q
 · obtain⟨its,r,pl,hz⟩:=I.tuple hq;refine SeqAt.in_tupleAt (eqU x) pl (fun w hw=>zfd rx fx r fs w (by simpa using hw)) ⟨.bl _,H,I,rfl,?_⟩;rw[show its.toArray.any (eqU x)=its.any (eqU x) by simp,zii r fs];exact q
theorem call_len_seq:CallR X (.builtin "len") (fun xs H Q=>∃p ys,xs=[.ref p]/\(SqL X.K H p ys\/SqT X.K H p ys)/\Q (.int ys.length) H):=by
 intro pins s σ H xs us Q I r h;obtain⟨p,ys,rfl,hq,q⟩:=h;obtain⟨u,rfl,rx⟩:=zjq r;cases rx;have hn:=zgr;rcases hq with hq | hq
 · obtain⟨its,r',pl,hz⟩:=I.list hq;have hlen:=r'.length;exact Calls.call_len_list pl.isList (by simp only[z17]<;>omega) ⟨.int ys.length,H,I.tok _,⟨s.toks+1,by rw[z17,hlen]⟩,q⟩
 · obtain⟨its,r',pl,hz⟩:=I.tuple hq;have hlen:=r'.length;exact len_tuple pl (by simp only[z17]<;>omega) ⟨.int ys.length,H,I.tok _,⟨s.toks+1,by rw[z17,hlen]⟩,q⟩
theorem zg1:CallR X (.builtin "len") (fun xs H Q=>∃z,xs=[.str z]/\z.length<=sizeLine/\Q (.int z.length) H):=by intro pins s σ H xs us Q I r h;obtain⟨z,rfl,hz,q⟩:=h;obtain⟨u,rfl,t,rfl⟩:=zjq r;have hn:=zgr;exact len_str (by omega) ⟨.int z.length,H,I.tok _,⟨_,rfl⟩,q⟩
theorem CallR.or{f:Value}{r r':List V->Hp->VK->Prop}(h:CallR X f r)(h':CallR X f r'):CallR X f (fun xs H Q=>r xs H Q\/r' xs H Q):=by
 intro pins s σ H xs us Q I rs q;rcases q with q | q
 · exact h pins s σ H xs us Q I rs q
 · exact h' pins s σ H xs us Q I rs q
theorem zg0:CallR X (.type "list") (fun xs H Q=>∃p ys,xs=[.ref p]/\(SqL X.K H p ys\/SqT X.K H p ys)/\∀l,H l=none->Q (.ref l) (upd H l (.lst ys))):=by
 intro pins s σ H xs us Q I r h;obtain⟨p,ys,rfl,hq,q⟩:=h;obtain⟨u,rfl,rx⟩:=zjq r;cases rx;have fin:∀(its:List Value),Vals ys its->ys.length<=sizeLine->∀(h':Heap) (c':Nat),(∀b o',s.heap.get? b=some o'->h'.get? b=some o') ->
     h'.get? s.heap.objs.size=some { cls:=.type "list",dict:=none,data:=.seq its.toArray c',slots:=#[] }->EP X pins σ Q (.ref s.heap.objs.size) { s with heap:=h' }:=fun its r' hz h' c' kp e=>
   ⟨.ref s.heap.objs.size,_,I.laid (t':=s.toks) kp (z16 _) (show ObjOk X.prog X.w _ h' _ (.lst ys) from⟨hz,its,c',r',e⟩),rfl,q _ (I.hok.fresh (z16 _))⟩
 rcases hq with hq | hq
 · obtain⟨its,r',pl,hz⟩:=I.list hq;have hlen:=r'.length;obtain⟨o,ho,hc,n,hd⟩:=pl.isList;exact call_list_seq p (.inl rfl) ho hc hd (fun h' c' kp e=>fin its r' hz h' c' kp e) (by simp only[z17]<;>omega)
 · obtain⟨its,r',pl,hz⟩:=I.tuple hq;have hlen:=r'.length;obtain⟨o,ho,hc,n,hd⟩:=pl;exact call_list_seq p (.inr rfl) ho hc hd (fun h' c' kp e=>fin its r' hz h' c' kp e) (by simp only[z17]<;>omega)
def tyV(K:zFr)(T:String)(x:V)(H:Hp):Prop:=match x with
 | .str _=>T="str"
 | .int _=>T="int"
 | .ref p=>(T="list"/\∃xs,SqL K H p xs)\/(T="tuple"/\∃o,K.lookup p=some o/\o.cls=.type "tuple"/\o.dict=none) \/
     (T="dict"/\((∃kvs,H p=some (.dK kvs))\/∃kvs,H p=some (.dT kvs)))\/(T="set"/\∃S n,H p=some (.set S n))
 |_=>False
theorem zur{pins:zAO}{σ:St}{H:Hp}{s:Shared}{T:String}{x:V}{v:Value}(I:Inv X pins σ H s)(r:RelV x v)(ty:tyV X.K T x H) :
   s.TypeIs v T/\∀a,v=.ref a->∃ob,s.heap.get? a=some ob/\ob.dict=none:=by
 cases x with
 | str z=>
   obtain⟨t,rfl⟩:=r;cases(show T="str" from ty);exact⟨typeIs_str s z t,fun _ e=>nomatch e⟩
 | int i=>
   obtain⟨t,rfl⟩:=r;cases(show T="int" from ty);exact⟨typeIs_int s i t,fun _ e=>nomatch e⟩
 | ref p=>
   cases r;rcases ty with⟨rfl,xs,hq⟩ | ⟨rfl,o,hk,hc,hd⟩ | ⟨rfl,hk⟩ | ⟨rfl,S,n,hk⟩
   · obtain⟨its,_,pl,_⟩:=I.list hq;refine⟨pl.isList.typeIs,fun a e=>?_⟩;cases e;obtain⟨o,n,e,c,hd,_⟩:=pl;exact⟨o,e,hd⟩
   · refine⟨⟨o,I.kIn p o hk,hc⟩,fun a e=>?_⟩;cases e;exact⟨o,I.kIn _ o hk,hd⟩
   · have z:∃o,s.heap.get? p=some o/\o.ExactDict:=by
       rcases hk with⟨kvs,hk⟩ | ⟨kvs,hk⟩
       · obtain⟨_,_,_,_,o,_,_,e,ex,_⟩:=I.hok p _ hk;exact⟨o,e,ex⟩
       · obtain⟨_,_,_,_,o,_,_,e,ex,_⟩:=I.hok p _ hk;exact⟨o,e,ex⟩
     obtain⟨o,e,ex⟩:=z;refine⟨⟨o,e,ex.1⟩,fun a e2=>?_⟩;cases e2;exact⟨o,e,ex.2.1⟩
   · obtain⟨o,_,_,_,e,ex,_⟩:=I.hok p _ hk;refine⟨⟨o,e,ex.1⟩,fun a e2=>?_⟩;cases e2;exact⟨o,e,ex.2.1⟩
 |_=>exact False.elim ty
def tBM(K:zFr)(T:String)(r:V->List V->Hp->VK->Prop)(to:TE)(t:TA):TE:=fun σ H Q=>to σ H fun x H1=>tyV K T x H1/\t σ H1 fun xs H2=>r x xs H2 Q
variable {o e:Expr}{es:List Expr}{to:TE}{t:TA}{name:Str}{apos cpos:Pos}{T id:String}{r:V->List V->Hp->VK->Prop}
theorem zzf(pa:PlainAttrs T)(slot:Slot T name id)(hty:typeOf (.builtin id)=pure (.type "method_descriptor"))(hm:MtR X id r)(ho:PE X o to)(ha:PA X (e::es) t)
   (hbase:attributeBase o name X.env (eval o X.env)=eval o X.env:=by rfl)
   (hfew:((backTo cpos (starEach (e::es) X.env)).all (fun x=>!x.1)&&(backToKw cpos (keywordEach [] X.env)).all (fun x=>x.1.isSome)
     && decide ((e::es).length+([]:List Keyword).length+(if([]:List Keyword).isEmpty then 0 else 1)<30))=true:=by rfl)
   (hline:(apos.endLine==cpos.line)=true:=by rfl) (hs:starEach (e::es) X.env=(false,eval e X.env)::starEach es X.env:=by rfl) (hplain:(backTo cpos (starEach es X.env)).any (·.1)=false:=by rfl) :
   PE X (.Call (.Attribute o name apos) (e::es) [] cpos) (tBM X.K T r to t):=by
 intro pins s σ H Q I h;refine wpAny_Call_method_late hbase hfew hline rfl (thn (ho pins s σ H _ I h) fun v s1 ⟨x,H1,I1,r1,ty,q1⟩=>?_);obtain⟨h1,h2⟩:=zur I1 r1 ty;refine⟨T,id,pa,slot,hty,h1,h2,?_⟩;have hA:=ha cpos pins s1 σ H1 _ I1 q1;rw[hs]at hA ⊢;refine Calls.callWith_builtin (by show(false||(backTo cpos (starEach es X.env)).any (·.1))=false;rw[hplain]<;>rfl) (z41 ?_);exact thn hA fun us s2 ⟨vs,H2,I2,r2,q2⟩=>hm pins s2 σ H2 x vs v us Q I2 r1 r2 q2
/- xs.append(e),list.index on a module's tuple .. are MtR facts of 06m -/
end
def MtM(X:Cx)(id:String)(r:V->List V->Hp->VK->Prop):Prop :=
 ∀(pins:zAO) (s:Shared) (σ:St) (H:Hp) (x:V) (xs:List V) (v:Value) (us:List Value) (Q:VK),Inv X pins σ H s->RelV x v->Vals xs us->r x xs H Q ->
   wpAny (model X.prog X.w) X.A (call (.builtin id) (v::us)) (EP X pins σ Q) X.xe s
theorem Vals.one:∀{x:V}{us:List Value},Vals [x] us->∃u,us=[u]/\RelV x u
 |_,_,.cons r .nil=>⟨_,rfl,r⟩
theorem Vals.dropLast{xs:List V}{us:List Value}(h:Vals xs us):Vals xs.dropLast us.dropLast:=by
 induction h with
 |nil=>exact .nil
 | cons r t ih=>
   cases t with
   |nil=>exact .nil
   |cons q t'=>exact .cons r ih
theorem Vals.reverse{xs:List V}{us:List Value}(h:Vals xs us):Vals xs.reverse us.reverse:=by
 induction h with
 |nil=>exact .nil
 |cons r t ih=>rw[z4v,z4v];exact Vals.append ih (.cons r .nil)
section
variable {X:Cx}{pins:zAO}{σ:St}{H:Hp}{s:Shared}{l b:Addr}{xs ys zs:List V}
theorem Inv.lset{its its':List Value}{n:Nat}{f:Array Value->Array Value}{t':Nat}(I:Inv X pins σ H s)(hH:H l=some (.lst xs))
   (e:s.heap.get? l=some { cls:=.type "list",data:=.seq its.toArray n }) (hf:f its.toArray=its'.toArray) (hv:Vals ys its') (hz:ys.length<=sizeLine) :
   Inv X pins σ (upd H l (.lst ys)) { s with heap:=s.heap.update l (Obj.mapSeq f),toks:=t' }:=by
 have q:=PySem.IsL.update e f;rw[hf]at q;refine I.write (x:=l) (e:=l) (by rw[hH];exact trivial) (.inl rfl) (fun b' u hb hu=>(z2m s.heap (Obj.mapSeq f) (z26 hb)).trans hu) ⟨_,q⟩ ?_;exact⟨hz,its',_,hv,q⟩
theorem Inv.lnew{its:List Value}{t':Nat}(I:Inv X pins σ H s)(hv:Vals ys its)(hz:ys.length<=sizeLine) :
   Inv X pins σ (upd H s.heap.objs.size (.lst ys)) { s with heap:=s.heap.push { cls:=.type "list",data:=.seq its.toArray },toks:=t' } :=
 I.laid (fun _ _ q=>z14 _ q) (z16 _) ⟨hz,its,0,hv,z2q _ rfl⟩
theorem Inv.fresh(I:Inv X pins σ H s):H s.heap.objs.size=none:=I.hok.fresh (z16 _)
theorem Inv.lstM(I:Inv X pins σ H s)(hH:H l=some (.lst xs)):xs.length<=sizeLine/\∃(its:List Value) (n:Nat),Vals xs its/\xs.length=its.length/\s.heap.get? l=some { cls:=.type "list",data:=.seq its.toArray n }:=by obtain⟨z,its,n,r,e⟩:=I.hok l _ hH;exact⟨z,its,n,r,r.length,e⟩
end
section
variable {X:Cx}
def zsl:V->List V->Hp->VK->Prop:=fun x vs H Q=>∃l xs y,x=.ref l/\vs=[y]/\H l=some (.lst xs)/\xs.length<sizeLine/\Q .non (upd H l (.lst (xs++[y])))
theorem zl9:MtM X "list.append" zsl:=by intro pins s σ H x vs v us Q I rx rv h;obtain⟨l,xs,y,rfl,rfl,hH,hz,q⟩:=h;cases rx;obtain⟨u,rfl,ru⟩:=rv.one;obtain⟨z,its,n,r,hl,e⟩:=I.lstM hH;refine call_meets F.slot_list_append ⟨_,e,rfl⟩ F.entry_list_append (F.args_list_append_2 _ _) (PySem.list_append l its.toArray n u (by rw[z17];omega)) ⟨e,?_⟩;refine⟨.non,_,I.lset (its':=its++[u]) hH e (by simp) (r.append (.cons ru .nil)) ?_,rfl,q⟩;rw[z13,List.length_singleton];omega
end
end L2
namespace Att
open PySem PySem.W PySem.Calls PyProof.Rows
theorem zdj{P:Params}{h:Heap}:∀(ns:List Int) (vs:List Value),WellAll P h vs (ns.map WData.int)->IntsAre vs ns:=by
 intro ns
 induction ns with
 | nil=>
   intro vs w;rw[z5w]at w;cases w;exact .nil
 | cons n ns ih=>
   intro vs w;rw[z2o]at w;cases w with
   | cons a b=>
     cases a;exact .cons _ _ (ih _ b)
theorem zlj{l:OpenLaw}{n:Nat}(hn:l.most=some n){P:Params}{h:Heap}{args:List WData}{vals:List Value}
   (hpre:l.row.toRowW.claim.pre args=true) (hwl:WellAll P h vals args) :
   ∃a vs ns,vals=[Value.ref a]/\args=[WData.list (ns.map WData.int)]/\h.get? a=some { cls:=.type "list",data:=.seq vs.toArray }/\IntsAre vs ns/\ns.length<=n:=by
 have hsh:WShape.hasAll [] args [.list .int]=true:=(pre_splitW hpre).1;have hc:l.pre.holds [] { args:=args }=true:=(pre_splitW hpre).2;obtain⟨d,r,rfl,h1,h2⟩:=hasAllW_cons hsh;obtain rfl:=hasAllW_nil h2;obtain⟨xs,rfl,h3⟩:=hasW_list h1;obtain⟨ns,rfl⟩:=items_int h3;have hlen:ns.length<=n:=by
   unfold OpenLaw.pre at hc;have h4:(WTm.not (.lt (.lit (.int (n:Int))) (.len (.arg 0)))).holds [] { args:=[.list (ns.map .int)] }=true:=by have h4:=(holds_andW hc).1;rw[hn]at h4;exact h4
   have h5:=condW_of h4 (w_not (w_lt w_lit (w_len_list (w_arg rfl))));rw[z45]at h5;refine Nat.le_of_not_lt fun q=>?_;have q':(n:Int)<((ns.length:Nat):Int):=by omega
   first
     | (rw[z2g q']at h5;exact absurd h5 (by decide))
     | (simp at h5;omega)
 cases hwl with
 | cons w1 w2=>
   cases w2;cases w1 with
   |list ho hall=>exact⟨_,_,ns,rfl,rfl,ho,zdj ns _ hall,hlen⟩
theorem zlw(l:OpenLaw)(args:List WData):l.row.toRowW.claim.post args (.bool true) args=true :=
 postW_of (r:=l.row.toRowW) (X:=(true==true))
   (show WShape.has [] (.bool true) .bool=true by first | rfl | decide | simp[WShape.has,WShape.arms,WShape.armsAll])
   (show(WTm.eq .res (.lit (.bool true))).value [] { args:=args,res:=some (.bool true),after:=args }=some (.bool (true==true))from w_eq_bool (w_res rfl) w_lit) rfl
theorem attach_call{l:OpenLaw}{n:Nat}{q:Program}{loose:List Str}{XP:(zMg)->Heap->Prop}{YP:World->Heap->Prop}{d:DefRec}
   (hn:l.most=some n) (hdf:d.params.defaults=[])
   (call:∀(w:World) (s₀ s₁:Shared) (mg mb:zMg) (fa:Addr) (o:Obj) (pm cd doc:Value) (a:Addr) (vs:List Value) (ns:List Int),
     Ground q loose [] XP w s₀ mg mb s₁.heap->YP w s₁.heap ->
     s₁.heap.get? fa=some o->o.data=.func (docDef d.name d.params d.body d.scope pm cd doc)->s₁.heap.CodeRec cd d.name->mg d.name=some (.ref fa) ->
     s₁.heap.get? a=some { cls:=.type "list",data:=.seq vs.toArray }->IntsAre vs ns->ns.length<=n->s₁.gens=#[] ->
     codeAny (model l.prog w) callerA (.call (.ref fa) ⟨[.ref a],[]⟩) (fun r s'=>r=.ok (.ret (.bool true))/\OldK s₁.heap s'.heap/\s'.os=s₁.os/\AllBare s'.gens) s₁) :
   WalkO q loose XP YP l.row.toRowW d [] (fun f vs=>PySem.call f vs):=by
 intro w s₀ s₁ mg mb G Y fa o pm cd doc dV kV ho hd hcd hD hmg hg args vals as hpre hlay hrd hwl hlo;obtain rfl:dV=.none:=Dflts.none hD hdf;obtain rfl:kV=.none:=Dflts.noKw hD;obtain⟨a,vs,ns,rfl,rfl,hobj,hints,hlen⟩:=zlj hn hpre hwl;refine enter_call (z4x (call w s₀ s₁ mg mb fa o pm cd doc a vs ns G Y ho (fd_plain hd) hcd hmg hobj hints hlen hg) fun r s' hq=>?_);obtain⟨rfl,h2,h3,h4⟩:=hq;exact⟨.inl ⟨.bool true,.bool true,[],rfl,fun _=>rfl,.bool true,zlw l _,fun _=>⟨List.Pairwise.nil,fun _ hm=>(nomatch hm)⟩⟩,h2,h3,h4⟩
section
variable {prog:Program}{w:World}{A:Around}{E:zVP}{s:Shared}{K:Frag}
def z0z(h:Heap)(L d:Addr):zAO:=(List.range h.objs.size).filterMap fun a=>if a=L\/a=d then none else (h.get? a).map fun o=>(a,o)
end
end Att
namespace L2
open PySem PySem.Spec PyProof.Rows
theorem zf8:∀{vs:List Value}{ns:List Int},IntsAre vs ns->Vals (ns.map V.int) vs
 |_,_,.nil=>.nil
 |_,_,.cons n t h=>.cons ⟨t,rfl⟩ (zf8 h)
def zyl(H:Hp):Prop:=∀b,H b=none\/∃o xs,H b=some (.frz o (.lst xs))
theorem zpb{P:Program}{w:World}{K:zFr}{mg mb:zMg}{CX:CXT}{k:Nat}{fa a:Addr}{fd:FuncData}{x:Str}{sp:Sp}{s₁:Shared}{vs:List Value}{ns:List Int}
   (KX:K.In s₁.heap) (hns:s₁.heap.Ns mainGlobals mg) (hb:s₁.heap.Ns builtinsNs mb) (hbb:∀x:Str,x≠"__name__"->mb x=bootBuiltins x) (hlim:s₁.heap.NoLimit) (hg:s₁.gens=#[])
   (ha:s₁.heap.get? a=some { cls:=.type "list",data:=.seq vs.toArray }) (hi:IntsAre vs ns) (hl:ns.length<=sizeLine) (hr:Room k callerA)
   (F:∀base:Heap,K.In base->base.Ns mainGlobals mg->FnOk P w K mg base CX k fa fd [x] sp) (hbind:∀(s:Shared) (u:Value),BindsTo s fd ⟨[u],[]⟩ [(x,u)])
   (hsp:∀H:Hp,zyl H->SqL K H a (ns.map V.int)->sp [.ref a] H (fun v _=>v=.bl true) fun _ _ _=>False)
   (hCX:∀H e s',CX [] H s₁ (fun _ _ _=>False) e s'->False) :
   codeAny (model P w) callerA (.call (.ref fa) ⟨[.ref a],[]⟩) (fun r s'=>r=.ok (.ret (.bool true))/\OldK s₁.heap s'.heap/\s'.os=s₁.os/\AllBare s'.gens) s₁:=by
 have rv:=zf8 hi;have lenV:=hi.length;have core:∀H:Hp,zyl H->SqL K H a (ns.map V.int)->HOk P w H s₁.heap->(∀b,H b≠none->b=a)->(H a≠none->K.lookup a=none) ->
     codeAny (model P w) callerA (.call (.ref fa) ⟨[.ref a],[]⟩) (fun r s'=>r=.ok (.ret (.bool true))/\OldK s₁.heap s'.heap/\s'.os=s₁.os/\AllBare s'.gens) s₁:=by
   intro H hO hS hok hA hK;have base_of:∀{b:Addr}{o:Obj},s₁.heap.get? b=some o->H b=none->(zpi s₁.heap H).get? b=some o:=fun e n=>zph e n;have noA:∀{b:Addr}{o:Obj}{es:Array DictEntry}{ep:Nat},s₁.heap.get? b=some o->o.data=.dict es ep->H b=none:=fun {b o es ep} e d=>by
     cases q:H b with
     |none=>rfl
     | some u=>
       have e':b=a:=hA b (by rw[q];simp);subst e';rw[ha]at e;cases e;have d':Data.seq vs.toArray _=Data.dict es ep:=d;cases d'
   have nsK:∀{b:Addr}{m:zMg},s₁.heap.Ns b m->(zpi s₁.heap H).Ns b m:=fun {b m} ⟨o,es,ep,e,d,r⟩=>⟨o,es,ep,base_of e (noA e d),d,r⟩
   have hKb:K.In (zpi s₁.heap H):=fun b o e=>base_of (KX b o e) (by
     cases q:H b with
     |none=>rfl
     | some u=>
       have e':b=a:=hA b (by rw[q];simp);subst e';rw[hK (by rw[q];simp)]at e;cases e)
   have hM:Mod K mg (zpi s₁.heap H):=⟨hKb,nsK hns,⟨mb,nsK hb,hbb⟩,let⟨mc,h1,h2⟩:=hlim;⟨mc,nsK h1,h2⟩⟩
   have e0:Env0 P w K mg (zpi s₁.heap H) callerA [] s₁ H:=⟨rfl,hM,fun b o e=>zs3 e,z5t (zms _ _),trivial,fun b hb=>absurd (show b∈([]:List Addr)from hb) (by simp),hok,.of_eq hg⟩
   refine z4x ((F _ hKb (nsK hns)).run callerA [] s₁ H ⟨[.ref a],[]⟩ [.ref a] [.ref a] _ _ hr e0 (hbind s₁ (.ref a)) (.cons rfl .nil) (hsp H hO hS)) fun r s' h=>?_;cases r with
   |error e=>exact(hCX H e s' h).elim
   | ok fl=>
     cases fl with
     |next=>exact False.elim h
     |brk=>exact False.elim h
     |cont=>exact False.elim h
     | ret u=>
       obtain⟨v,H',os,bare,un,hok',r',q⟩:=h;have q':v=.bl true:=q;subst q';obtain rfl:u=Value.bool true:=r';refine⟨rfl,OldK.of_keep fun b o e=>?_,os,bare⟩;cases q:H b with
       |none=>exact un.keep b o e q (by intro z;exact absurd (show b∈([]:List Addr)from z) (by simp)) (by simp)
       | some u=>
         rcases hO b with z | ⟨ob,xs,z⟩
         · rw[q]at z;cases z
         · have z2:=un.frzs b ob _ z;obtain⟨e1,_⟩:=hok b _ z;obtain⟨e2,_⟩:=hok' b _ z2;rw[e]at e1;cases e1;exact e2
 cases hk:K.lookup a with
 | some o=>
   have e:=KX a o hk;rw[ha]at e;cases e;refine core (fun _=>none) (fun _=>.inl rfl) (.inr ⟨_,vs.toArray,_,hk,rfl,rfl,rfl,by rw[z17,lenV];exact hl,by simpa using rv⟩) (fun b u z=>by have z':(none:Option HO)=some u:=z;cases z') (fun b z=>absurd rfl z) fun z=>absurd rfl z
 | none=>
   refine core (fun b=>if b=a then some (.frz { cls:=.type "list",data:=.seq vs.toArray } (.lst (ns.map V.int)))else none) (fun b=>?_) (.inl (.inr ⟨{ cls:=.type "list",data:=.seq vs.toArray },z2v rfl⟩)) (fun b u z=>?_) (fun b z=>?_) fun _=>hk
   · by_cases hb:b=a
     · exact .inr ⟨_,_,z2v hb⟩
     · exact .inl (z2w hb)
   · by_cases hb:b=a
     · have z':=(z2v hb).symm.trans z;cases z';subst hb;exact⟨ha,by rw[z45];exact hl,vs,_,rv,ha⟩
     · have z':=(z2w hb).symm.trans z;cases z'
   · by_cases hb:b=a
     · exact hb
     · exact absurd (z2w hb) z
abbrev KOf{K:zFr}{h:Heap}(_:K.In h):zFr:=K
theorem walk_of{l:PySem.W.OpenLaw}{n k:Nat}{q:Program}{loose:List Str}{XP:(zMg)->Heap->Prop}{YP:World->Heap->Prop}{d:DefRec}{K:Params->zFr}{CX:World->CXT}{sp:World->Sp}{x:Str}
   (hn:l.most=some n) (hn2:n<=sizeLine) (hdf:d.params.defaults=[]) (hr:Room k callerA)
   (hY:∀(w:World) (h:Heap),YP w h->(K w.params).In h)
   (F:∀(w:World) (mg:zMg) (fa:Addr) (h:Heap),(K w.params).In h->h.Ns mainGlobals mg->mg d.name=some (.ref fa) ->
     ∃fd:FuncData,(∀(s:Shared) (u:Value),BindsTo s fd ⟨[u],[]⟩ [(x,u)]) /\
       ∀base:Heap,(K w.params).In base->base.Ns mainGlobals mg->FnOk l.prog w (K w.params) mg base (CX w) k fa fd [x] (sp w))
   (hsp:∀(w:World) (H:Hp) (a:Addr) (ns:List Int),ns.length<=n->zyl H->SqL (K w.params) H a (ns.map V.int)->sp w [.ref a] H (fun v _=>v=.bl true) fun _ _ _=>False)
   (hCX:∀(w:World) (H:Hp) (s:Shared) (e:Value) (s':Shared),CX w [] H s (fun _ _ _=>False) e s'->False) :
   PySem.W.WalkO q loose XP YP l.row.toRowW d [] (fun f vs=>PySem.call f vs):=by
 refine Att.attach_call hn hdf fun w s₀ s₁ mg mb fa o pm cd doc a vs ns G Y ho hd hcd hmg hobj hints hlen hg=>?_;have KX:=hY w _ Y;obtain⟨fd,hb,hF⟩:=F w mg fa _ KX G.T.g hmg;exact zpb KX G.T.g G.T.b G.T.builtins G.T.nolimit hg hobj hints (z2h hlen hn2) hr hF hb (fun H hO hS=>hsp w H a ns hlen hO hS) fun H e s'=>hCX w H s₁ e s'
end L2
/- THE LAST THEOREM (shape;LID,My.* are yours):
  My.Adr: a structure of the addresses that your layer names (classes,functions);My.Txt K t: a structure (Prop) of the equations over K;
  My.txt_mk:{K}{implicit addresses ..} (e1:nsIn K mainGlobals "law"=some (some (.ref f))) (e2:K.lookup f=some ⟨oc,od,.func (fnOf "law" "law" params body scope dV kV doc pm an cdv ct),sl⟩) (e3:codeIn K cdv "law"=true) ..:∃t,My.Txt K t
(the tactic k_is has no namespace: write k_is) -/
namespace L2
open PySem PySem.Spec PyProof.Rows
def ji(s:Stmt)(j:Nat):Stmt:=match s with
 | .ClassDef _ _ _ body _ _ _ _ _ _ _=>body.getD j (.Pass ⟨0,0,0,0⟩)
 |_=>.Pass ⟨0,0,0,0⟩
def za0(s:Stmt):Arguments:=match s with
 | .FunctionDef _ a _ _ _ _ _ _ _ _=>a
 |_=>{ posonlyargs:=[],args:=[],vararg:=none,kwonlyargs:=[],kw_defaults:=[],kwarg:=none,defaults:=[] }
def j0(s:Stmt):List Stmt:=match s with
 | .FunctionDef _ _ b _ _ _ _ _ _ _=>b
 |_=>[]
def zi(s:Stmt):Scope:=match s with
 | .FunctionDef _ _ _ _ _ _ sc _ _ _=>sc
 |_=>{ kind:=.function,names:=[],isGenerator:=false,isCoroutine:=false }
abbrev CX0:CXT:=fun _ _ _ _ _ _=>False
abbrev E0:XK:=fun _ _ _=>False
theorem zj4{X:Cx}:zb6 CX0 X E0:=fun _ _ _ _ _ _ _ h=>h.elim
theorem zyf{A B:Prop}(h:B):if false=true then A else B:=by rw[z2w z3g];exact h
theorem zye{A B:Prop}(h:A):if true=true then A else B:=by rw[z2v rfl];exact h
section
variable {X:Cx}{pins:zAO}{σ:St}{H:Hp}{s:Shared}{a:Addr}{y v:V}{u r:Value}{o:Option V}{A:Around}{E:zVP}
end
end L2
namespace F
open PySem L2
def zwg:Expr->Bool
 | .Starred ..=>false
 |_=>true
theorem zx{e:Expr}{es:List Expr}{env:Env}(h:zwg e=true):starEach (e::es) env=(false,eval e env)::starEach es env:=by cases e<;>first | rfl | cases h
theorem qt{pos:Pos}{env:Env}:∀{es:List Expr},es.all zwg=true->(backTo pos (starEach es env)).any (·.1)=false
 | [],_=>rfl
 | e::es,h=>by rw[List.all_cons,z2t]at h;rw[zx h.1];show(false||(backTo pos (starEach es env)).any (·.1))=false;rw[qt h.2];rfl
structure LT where
 params:Arguments
 body:Expr
 scope:Scope
 qual:Str
 caps:List Str:=[]
 cl:zLA:=[]
inductive D where
 |non | bl (b:Bool) | int (i:Int) | str (x:Str) | fn (x:Str) | ty (n:String)
 |tup (ds:List D) | lst (ds:List D) | obj (i:Nat) | lam (t:LT) | clo (t:LT) (vs:List D)
inductive MO where
 |lst (ds:List D) | ins (c:Str) (fs:List (Str×D)) | dct (kvs:List (Int×D)) | exc (c:Str) | tab (x q:Str) | xd (n:Str) (d:D) | xc (c:Str) (j:Nat)
abbrev Sto:=List MO
abbrev Ev:=List (Option D)
abbrev E:=Ev->Sto->Option (D×Sto)
abbrev B:=Ev->Sto->Option (Bool×Sto)
abbrev As:=Ev->Sto->Option (List D×Sto)
abbrev G:=List D->Sto->Option (D×Sto)
inductive Out where
 |nx (e:Ev) | rt (d:D) | bk (e:Ev) | ct (e:Ev)
abbrev C:=Ev->Sto->Option (Out×Sto)
def TupAt(K:zFr)(ρ:List Addr)(H:Hp)(p:Addr)(vs:List V):Prop :=
 (p∉ρ/\Rd H p (.tup vs))\/∃(o:Obj) (its:Array Value) (n:Nat),K.lookup p=some o/\o.cls=.type "tuple"/\o.data=.seq its n/\its.size<=sizeLine/\Vals vs its.toList
def LstAt(K:zFr)(ρ:List Addr)(H:Hp)(p:Addr)(vs:List V):Prop :=
 (p∉ρ/\Rd H p (.lst vs))\/∃(o:Obj) (its:Array Value) (n:Nat),K.lookup p=some o/\o.cls=.type "list"/\o.dict=none/\o.data=.seq its n/\its.size<=sizeLine/\Vals vs its.toList
theorem TupAt.sq{K ρ H p vs}(h:TupAt K ρ H p vs):SqT K H p vs:=by
 rcases h with⟨_,h⟩ | h
 · exact .inl h
 · exact .inr h
theorem LstAt.sq{K ρ H p vs}(h:LstAt K ρ H p vs):SqL K H p vs:=by
 rcases h with⟨_,h⟩ | h
 · exact .inl h
 · exact .inr h
def zt3(c:Addr)(q:Str):Heap->Prop:=fun h=>h.CodeRec (.ref c) q
def z1o(t:LT)(a c:Addr)(pm ct:Value):Heap->Prop:=fun h=>h.get? a=some (PySem.W.kla_obj "<lambda>" t.qual t.params t.body t.scope t.cl pm c ct)
def LamAt(ρ:List Addr)(H:Hp)(t:LT)(a:Addr):Prop:=a∉ρ/\∃c pm ct,c∉ρ/\H a=some (.ext (z1o t a c pm ct))/\H c=some (.ext (zt3 c t.qual))
def z1s(t:LT)(cl:zLA)(a c:Addr)(pm ct:Value):Heap->Prop:=fun h=>h.get? a=some (PySem.W.kla_obj "<lambda>" t.qual t.params t.body t.scope cl pm c ct)
def Cells(ρ:List Addr)(H:Hp):List Str->List V->zLA->Prop
 | [],[],[]=>True
 |x::xs,u::us,p::cl=>p.1=x/\p.2∉ρ/\(∃(o:Obj) (w:Value),H p.2=some (.frz o (.own 0))/\o.data=.cell (some w)/\RelV u w)/\Cells ρ H xs us cl
 |_,_,_=>False
def CloAt(ρ:List Addr)(H:Hp)(t:LT)(us:List V)(a:Addr):Prop:=a∉ρ/\∃c pm ct cl,c∉ρ/\H a=some (.ext (z1s t cl a c pm ct))/\H c=some (.ext (zt3 c t.qual))/\(cl.map (·.2)).Nodup/\Cells ρ H t.caps us cl
section
variable (K:zFr) (mg:zMg)
mutual
def Rep(ρ:List Addr)(H:Hp):D->V->Prop
 | .non,v=>v=.non
 | .bl b,v=>v=.bl b
 | .int i,v=>v=.int i
 | .str x,v=>v=.str x
 | .fn x,v=>∃a,v=.ref a/\mg x=some (.ref a)
 | .ty n,v=>v=.ty n
 | .tup ds,v=>∃p vs,v=.ref p/\TupAt K ρ H p vs/\RepL ρ H ds vs
 | .lst ds,v=>∃p vs,v=.ref p/\LstAt K ρ H p vs/\RepL ρ H ds vs
 | .obj i,v=>∃a,v=.ref a/\ρ[i]? = some a
 | .lam t,v=>∃a,v=.ref a/\LamAt ρ H t a
 | .clo t vs,v=>∃a us,v=.ref a/\CloAt ρ H t us a/\RepL ρ H vs us
def RepL(ρ:List Addr)(H:Hp):List D->List V->Prop
 | [],vs=>vs=[]
 |d::ds,vs=>∃v r,vs=v::r/\Rep ρ H d v/\RepL ρ H ds r
end
end
structure Ext (ρ:List Addr) (H:Hp) (ρ':List Addr) (H':Hp):Prop where
 pre:∀(i:Nat) (a:Addr),ρ[i]? = some a->ρ'[i]? = some a
 keep:∀b o,H b=some o->b∉ρ->H' b=some o
 new:∀b,b∈ρ'->b∉ρ->H b=none
theorem Ext.refl(ρ:List Addr)(H:Hp):Ext ρ H ρ H:=⟨fun _ _ h=>h,fun _ _ h _=>h,fun _ h n=>absurd h n⟩
theorem Ext.out{ρ ρ' H H'}(e:Ext ρ H ρ' H'){b:Addr}{o:HO}(h:H b=some o)(n:b∉ρ):b∉ρ':=fun z=>by have:=e.new b z n;rw[h]at this;cases this
theorem Ext.trans {ρ ρ' ρ'' H H' H''} (a:Ext ρ H ρ' H') (b:Ext ρ' H' ρ'' H''):Ext ρ H ρ'' H'' where
 pre:=fun i x h=>b.pre i x (a.pre i x h)
 keep:=fun c o h n=>b.keep c o (a.keep c o h n) (a.out h n)
 new:=fun c h n=>by
   by_cases z:c∈ρ'
   · exact a.new c z n
   · cases q:H c with
     |none=>rfl
     | some o=>
       have:=a.keep c o q n;rw[b.new c h z]at this;cases this
section
variable {K:zFr}{mg:zMg}{ρ ρ':List Addr}{H H':Hp}
theorem TupAt.mono{p vs}(h:TupAt K ρ H p vs)(e:Ext ρ H ρ' H'):TupAt K ρ' H' p vs:=by
 rcases h with⟨n,h | ⟨o,h⟩⟩ | h
 · exact .inl ⟨e.out h n,.inl (e.keep _ _ h n)⟩
 · exact .inl ⟨e.out h n,.inr ⟨o,e.keep _ _ h n⟩⟩
 · exact .inr h
theorem LstAt.mono{p vs}(h:LstAt K ρ H p vs)(e:Ext ρ H ρ' H'):LstAt K ρ' H' p vs:=by
 rcases h with⟨n,h | ⟨o,h⟩⟩ | h
 · exact .inl ⟨e.out h n,.inl (e.keep _ _ h n)⟩
 · exact .inl ⟨e.out h n,.inr ⟨o,e.keep _ _ h n⟩⟩
 · exact .inr h
theorem LamAt.mono{t a}(h:LamAt ρ H t a)(e:Ext ρ H ρ' H'):LamAt ρ' H' t a:=by obtain⟨n,c,pm,ct,nc,h1,h2⟩:=h;exact⟨e.out h1 n,c,pm,ct,e.out h2 nc,e.keep _ _ h1 n,e.keep _ _ h2 nc⟩
theorem Cells.mono(e:Ext ρ H ρ' H'):∀{xs:List Str}{us:List V}{cl:zLA},Cells ρ H xs us cl->Cells ρ' H' xs us cl
 | [],[],[],_=>trivial
 | x::xs,u::us,p::cl,h=>by obtain⟨h1,h2,⟨o,w,h3,h4⟩,h5⟩:=h;exact⟨h1,e.out h3 h2,⟨o,w,e.keep _ _ h3 h2,h4⟩,Cells.mono e h5⟩
 | [],[],_::_,h=>h.elim
 | [],_::_,_,h=>h.elim
 |_::_,[],_,h=>h.elim
 |_::_,_::_,[],h=>h.elim
theorem CloAt.mono{t us a}(h:CloAt ρ H t us a)(e:Ext ρ H ρ' H'):CloAt ρ' H' t us a:=by obtain⟨n,c,pm,ct,cl,nc,h1,h2,h3,h4⟩:=h;exact⟨e.out h1 n,c,pm,ct,cl,e.out h2 nc,e.keep _ _ h1 n,e.keep _ _ h2 nc,h3,h4.mono e⟩
mutual
theorem Rep.mono(e:Ext ρ H ρ' H'):∀{d:D}{v:V},Rep K mg ρ H d v->Rep K mg ρ' H' d v
 | .non,_,h=>h
 | .bl _,_,h=>h
 | .int _,_,h=>h
 | .str _,_,h=>h
 | .fn _,_,h=>h
 | .ty _,_,h=>h
 | .tup ds,_,h=>by unfold Rep at h ⊢;obtain⟨p,vs,e1,t,r⟩:=h;exact⟨p,vs,e1,t.mono e,RepL.mono e r⟩
 | .lst ds,_,h=>by unfold Rep at h ⊢;obtain⟨p,vs,e1,t,r⟩:=h;exact⟨p,vs,e1,t.mono e,RepL.mono e r⟩
 | .obj i,_,h=>by unfold Rep at h ⊢;obtain⟨a,e1,t⟩:=h;exact⟨a,e1,e.pre _ _ t⟩
 | .lam t,_,h=>by unfold Rep at h ⊢;obtain⟨a,e1,t⟩:=h;exact⟨a,e1,t.mono e⟩
 | .clo t vs,_,h=>by unfold Rep at h ⊢;obtain⟨a,us,e1,t,r⟩:=h;exact⟨a,us,e1,t.mono e,RepL.mono e r⟩
theorem RepL.mono(e:Ext ρ H ρ' H'):∀{ds:List D}{vs:List V},RepL K mg ρ H ds vs->RepL K mg ρ' H' ds vs
 | [],_,h=>h
 | d::ds,_,h=>by unfold RepL at h ⊢;obtain⟨v,r,e1,h1,h2⟩:=h;exact⟨v,r,e1,Rep.mono e h1,RepL.mono e h2⟩
end
theorem RepL.nil:RepL K mg ρ H [] []:=by unfold RepL;rfl
theorem RepL.cons{d ds v vs}(h:Rep K mg ρ H d v)(t:RepL K mg ρ H ds vs):RepL K mg ρ H (d::ds) (v::vs):=by unfold RepL;exact⟨v,vs,rfl,h,t⟩
theorem RepL.length:∀{ds:List D}{vs:List V},RepL K mg ρ H ds vs->ds.length=vs.length
 | [],_,h=>by unfold RepL at h;subst h;rfl
 | d::ds,_,h=>by unfold RepL at h;obtain⟨v,r,rfl,_,h2⟩:=h;rw[List.length_cons,List.length_cons,h2.length]
theorem RepL.get:∀{ds:List D}{vs:List V}{i:Nat}{d:D},RepL K mg ρ H ds vs->ds[i]? = some d->∃v,vs[i]? = some v/\Rep K mg ρ H d v
 | [],_,_,_,_,e=>by simp at e
 | d::ds,_,0,x,h,e=>by unfold RepL at h;obtain⟨v,r,rfl,h1,_⟩:=h;simp at e;subst e;exact⟨v,rfl,h1⟩
 | d::ds,_,i+1,x,h,e=>by unfold RepL at h;obtain⟨v,r,rfl,_,h2⟩:=h;obtain⟨u,e1,e2⟩:=RepL.get (i:=i) (d:=x) h2 (by simpa using e);exact⟨u,by simpa using e1,e2⟩
theorem RepL.append:∀{ds es:List D}{vs us:List V},RepL K mg ρ H ds vs->RepL K mg ρ H es us->RepL K mg ρ H (ds++es) (vs++us)
 | [],_,_,_,h,t=>by unfold RepL at h;subst h;exact t
 | d::ds,_,_,_,h,t=>by unfold RepL at h;obtain⟨v,r,rfl,h1,h2⟩:=h;exact RepL.cons h1 (RepL.append h2 t)
theorem RepL.take:∀{ds:List D}{vs:List V} (n:Nat),RepL K mg ρ H ds vs->RepL K mg ρ H (ds.take n) (vs.take n)
 |_,_,0,_=>by simpa using RepL.nil
 | [],_,_+1,h=>by unfold RepL at h;subst h;simpa using RepL.nil
 | d::ds,_,n+1,h=>by unfold RepL at h;obtain⟨v,r,rfl,h1,h2⟩:=h;exact RepL.cons h1 (RepL.take n h2)
theorem RepL.drop:∀{ds:List D}{vs:List V} (n:Nat),RepL K mg ρ H ds vs->RepL K mg ρ H (ds.drop n) (vs.drop n)
 |_,_,0,h=>by simpa using h
 | [],_,_+1,h=>by unfold RepL at h;subst h;simpa using RepL.nil
 | d::ds,_,n+1,h=>by unfold RepL at h;obtain⟨v,r,rfl,h1,h2⟩:=h;simpa using RepL.drop n h2
theorem RepL.reverse:∀{ds:List D}{vs:List V},RepL K mg ρ H ds vs->RepL K mg ρ H ds.reverse vs.reverse
 | [],_,h=>by unfold RepL at h;subst h;exact RepL.nil
 | d::ds,_,h=>by unfold RepL at h;obtain⟨v,r,rfl,h1,h2⟩:=h;rw[z4v,z4v];exact RepL.append (RepL.reverse h2) (RepL.cons h1 RepL.nil)
end
def zul(K:zFr)(mg:zMg)(ρ:List Addr)(H:Hp)(fs:List (Str×D))(vs:List (Str×V)):Prop :=
 vs.map (·.1)=fs.map (·.1)/\RepL K mg ρ H (fs.map (·.2)) (vs.map (·.2))
def z0l(K:zFr)(mg:zMg)(x:Str)(a:Addr):Prop:=∃(f:Addr) (o:Obj) (fd:FuncData) (c:Addr),mg x=some (.ref f)/\K.lookup f=some o/\o.data=.func fd/\fd.code=.ref c/\PySem.W.codeHdIn K c a=true
def MOk(K:zFr)(mg:zMg)(ρ:List Addr)(H:Hp)(a:Addr):MO->Prop
 | .lst ds=>∃vs,H a=some (.lst vs)/\RepL K mg ρ H ds vs
 | .ins c fs=>∃C dx vs,mg c=some (.ref C)/\H a=some (.ins C dx vs)/\zul K mg ρ H fs vs
 | .dct kvs=>∃vs:List (Key×V),H a=some (.dK vs)/\vs.map (·.1)=kvs.map (fun p=>Sum.inl p.1)/\RepL K mg ρ H (kvs.map (·.2)) (vs.map (·.2))
 | .exc c=>∃C,mg c=some (.ref C)/\H a=some (.ext fun h=>∃o,h.get? a=some o/\o.cls=.ref C)
 | .tab x q=>z0l K mg x a/\∃ps:Array Value,H a=some (.tbl ps)/\TriplesOk ps.toList/\∀(pos:Pos) (cv:Value),codeAmong pos ps.toList=some cv->∃c,cv=.ref c/\c∉ρ/\H c=some (.ext (zt3 c q))
 | .xd n d=>∃v,H a=some (.xd [(n,v)])/\Rep K mg ρ H d v
 | .xc c j=>∃C dx,mg c=some (.ref C)/\ρ[j]? = some dx/\H a=some (.ext fun h=>∃o vs,h.get? a=some o/\o.cls=.ref C/\o.dict=some dx/\o.data=.fields vs)
structure StOk (K:zFr) (mg:zMg) (ρ:List Addr) (H:Hp) (S:Sto):Prop where
 len:ρ.length=S.length
 nd:ρ.Nodup
 ob:∀(i:Nat) (m:MO) (a:Addr),S[i]? = some m->ρ[i]? = some a->MOk K mg ρ H a m
section
variable {K:zFr}{mg:zMg}{ρ ρ':List Addr}{H H':Hp}{S:Sto}
theorem MOk.mono{a m}(h:MOk K mg ρ H a m)(e:Ext ρ H ρ' H')(k:H' a=H a):MOk K mg ρ' H' a m:=by
 cases m with
 |lst ds=>obtain⟨vs,h1,h2⟩:=h;exact⟨vs,k.trans h1,h2.mono e⟩
 |ins c fs=>obtain⟨C,dx,vs,h0,h1,h2,h3⟩:=h;exact⟨C,dx,vs,h0,k.trans h1,h2,h3.mono e⟩
 |dct kvs=>obtain⟨vs,h1,h2,h3⟩:=h;exact⟨vs,k.trans h1,h2,h3.mono e⟩
 |exc c=>obtain⟨C,h1,h2⟩:=h;exact⟨C,h1,k.trans h2⟩
 | tab x q=>
   obtain⟨h0,ps,h1,h2,h3⟩:=h;exact⟨h0,ps,k.trans h1,h2,fun pos cv z=>let⟨c,z1,z2,z3⟩:=h3 pos cv z;⟨c,z1,e.out z3 z2,e.keep _ _ z3 z2⟩⟩
 |xd n d=>obtain⟨v,h1,h2⟩:=h;exact⟨v,k.trans h1,h2.mono e⟩
 |xc c j=>obtain⟨C,dx,h1,h2,h3⟩:=h;exact⟨C,dx,h1,e.pre _ _ h2,k.trans h3⟩
theorem MOk.some{a m}(h:MOk K mg ρ H a m):∃o,H a=some o:=by
 cases m with
 |lst ds=>obtain⟨vs,h1,h2⟩:=h;exact⟨_,h1⟩
 |ins c fs=>obtain⟨C,dx,vs,h0,h1,h2,h3⟩:=h;exact⟨_,h1⟩
 |dct kvs=>obtain⟨vs,h1,h2,h3⟩:=h;exact⟨_,h1⟩
 |exc c=>obtain⟨C,h1,h2⟩:=h;exact⟨_,h2⟩
 |tab x q=>obtain⟨_,ps,h1,_⟩:=h;exact⟨_,h1⟩
 |xd n d=>obtain⟨v,h1,h2⟩:=h;exact⟨_,h1⟩
 |xc c j=>obtain⟨C,dx,h1,h2,h3⟩:=h;exact⟨_,h3⟩
theorem StOk.at(s:StOk K mg ρ H S){i:Nat}{a:Addr}(h:ρ[i]? = some a):∃m,S[i]? = some m/\MOk K mg ρ H a m:=by
 have hi:i<ρ.length:=(z15.mp h).1;have hj:i<S.length:=by rw[<-s.len];exact hi
 exact⟨S[i],z19 hj,s.ob i _ a (z19 hj) h⟩
theorem StOk.mem(s:StOk K mg ρ H S){a}(h:a∈ρ):∃o,H a=some o:=by obtain⟨i,hi,e⟩:=List.mem_iff_getElem.mp h;obtain⟨m,_,q⟩:=s.at (i:=i) (a:=a) (by rw[z19 hi,e]);exact q.some
theorem StOk.fresh(s:StOk K mg ρ H S){p}(h:H p=none):p∉ρ:=fun z=>by obtain⟨o,e⟩:=s.mem z;rw[h]at e;cases e
theorem x9(s:StOk K mg ρ H S){p:Addr}(o:HO)(h:H p=none):Ext ρ H ρ (upd H p o) :=
 ⟨fun _ _ e=>e,fun b u e _=>by rw[zw (z9 e h)];exact e,fun _ z n=>absurd z n⟩
theorem StOk.new(s:StOk K mg ρ H S){p:Addr}(o:HO)(h:H p=none):StOk K mg ρ (upd H p o) S :=
 ⟨s.len,s.nd,fun i m a e1 e2=>by
   have q:=s.ob i m a e1 e2;obtain⟨u,z⟩:=q.some;exact q.mono (x9 s o h) (zw (z9 z h))⟩
theorem zh2(s:StOk K mg ρ H S){i:Nat}{a:Addr}(o:HO)(h:ρ[i]? = some a):Ext ρ H ρ (upd H a o) :=
 ⟨fun _ _ e=>e,fun b u e n=>by rw[zw (fun(z:b=a)=>n (by rw[z];exact z4c h))];exact e,fun _ z n=>absurd z n⟩
theorem zo5{l:List Addr}(hN:l.Nodup){i j:Nat}{x:Addr}(a:l[i]? = some x)(b:l[j]? = some x):i=j:=by obtain⟨h1,e1⟩:=z15.mp a;obtain⟨h2,e2⟩:=z15.mp b;exact(List.getElem_inj hN).mp (e1.trans e2.symm)
theorem StOk.set(s:StOk K mg ρ H S){i:Nat}{a:Addr}{o:HO}{m:MO}(h:ρ[i]? = some a)(q:MOk K mg ρ (upd H a o) a m):StOk K mg ρ (upd H a o) (S.set i m):=by
 refine⟨by rw[z3b];exact s.len,s.nd,fun j m' b e1 e2=>?_⟩;by_cases hj:j=i
 · subst hj;have hi:j<S.length:=by rw[<-s.len];exact(z15.mp h).1
   rw[z2r hi]at e1;cases e1;rw[h]at e2;cases e2;exact q
 · rw[z23 (z26 hj)]at e1;exact(s.ob j m' b e1 e2).mono (zh2 s o h) (zw fun z=>hj (zo5 s.nd (z▸e2) h))
theorem zce(s:StOk K mg ρ H S){p:Addr}(o:HO)(h:H p=none):Ext ρ H (ρ++[p]) (upd H p o) :=
 ⟨fun i a e=>by rw[z2k (z15.mp e).1];exact e,fun b u e _=>by rw[zw (z9 e h)];exact e,
   fun b z n=>by
     rcases z32.mp z with z | z
     · exact absurd z n
     · rw[z20.mp z];exact h⟩
theorem StOk.add(s:StOk K mg ρ H S){p:Addr}{o:HO}{m:MO}(h:H p=none)(q:MOk K mg (ρ++[p]) (upd H p o) p m):StOk K mg (ρ++[p]) (upd H p o) (S++[m]):=by
 refine⟨by rw[z13,z13,s.len]<;>rfl,?_,fun j m' b e1 e2=>?_⟩
 · rw[List.nodup_append];refine⟨s.nd,by simp,fun x hx y hy=>?_⟩;rw[z20.mp hy];exact fun z=>s.fresh h (z▸hx)
 · by_cases hj:j<S.length
   · rw[z2k hj]at e1;rw[z2k (by rw[s.len];exact hj)]at e2;have q:=s.ob j m' b e1 e2;obtain⟨u,z⟩:=q.some;exact q.mono (zce s o h) (zw (z9 z h))
   · rw[z2j (by omega)]at e1;rw[z2j (by rw[s.len];omega)]at e2;have e0:j-S.length=0:=by have:=(z15.mp e1).1;simp at this;omega
     rw[e0]at e1;rw[s.len,e0]at e2;simp at e1 e2;subst e1 e2;exact q
theorem Rep.tup{p ds vs}{s:StOk K mg ρ H S}(h:H p=none)(r:RepL K mg ρ H ds vs):Rep K mg ρ (upd H p (.tup vs)) (.tup ds) (.ref p):=by unfold Rep;exact⟨p,vs,rfl,.inl ⟨s.fresh h,.inl jd⟩,r.mono (x9 s _ h)⟩
theorem Rep.lst{p ds vs}{s:StOk K mg ρ H S}(h:H p=none)(r:RepL K mg ρ H ds vs):Rep K mg ρ (upd H p (.lst vs)) (.lst ds) (.ref p):=by unfold Rep;exact⟨p,vs,rfl,.inl ⟨s.fresh h,.inl jd⟩,r.mono (x9 s _ h)⟩
end
structure EnvR (K:zFr) (mg:zMg) (ρ:List Addr) (H:Hp) (ev:Ev) (σ:St):Prop where
 len:ev.length=σ.length
 at_:∀(i:Nat) (d:D),ev[i]? = some (some d)->∃v,σ[i]? = some (some v)/\Rep K mg ρ H d v
section
variable {K:zFr}{mg:zMg}{ρ ρ':List Addr}{H H':Hp}{ev:Ev}{σ:St}
theorem EnvR.mono(h:EnvR K mg ρ H ev σ)(e:Ext ρ H ρ' H'):EnvR K mg ρ' H' ev σ :=
 ⟨h.len,fun i d q=>let⟨v,a,b⟩:=h.at_ i d q;⟨v,a,b.mono e⟩⟩
theorem EnvR.set(h:EnvR K mg ρ H ev σ){d v}(r:Rep K mg ρ H d v)(i:Nat):EnvR K mg ρ H (ev.set i (some d)) (σ.set i (some v)):=by
 refine⟨by rw[z3b,z3b];exact h.len,fun j x q=>?_⟩;by_cases hj:j=i
 · subst hj;have hi:j<ev.length:=by
     have:=(z15.mp q).1
     rwa [z3b]at this
   rw[z2r hi]at q;cases q;exact⟨v,by rw[z2r (by rw[<-h.len];exact hi)],r⟩
 · rw[z23 (z26 hj)]at q ⊢;exact h.at_ j x q
theorem EnvR.start{N:List Str}{ds:List D}{vs:List V}(h:RepL K mg ρ H ds vs):EnvR K mg ρ H (ds.map some++List.replicate (N.length-ds.length) none) (L2.start N vs):=by
 have hl:=h.length;refine⟨by unfold L2.start;simp[hl],fun i d q=>?_⟩;have hi:i<ds.length:=by
   by_cases hi:i<ds.length
   · exact hi
   · rw[z2j (by simpa using hi),List.getElem?_replicate]at q;split at q<;>cases q
 rw[z2k (by simpa using hi),z3l]at q;cases e:ds[i]? with
 |none=>rw[e]at q;cases q
 | some x=>
   rw[e]at q;cases q;obtain⟨v,e1,r⟩:=h.get e;refine⟨v,?_,r⟩;unfold L2.start;rw[z2k (by simpa [<-hl] using hi),z3l,e1];rfl
end
section
variable (K:zFr) (mg:zMg)
def tE(f:E):TE:=fun σ H Q=>∃ρ ev S d S',EnvR K mg ρ H ev σ/\StOk K mg ρ H S/\f ev S=some (d,S') /\
 ∀v ρ' H',Ext ρ H ρ' H'->StOk K mg ρ' H' S'->Rep K mg ρ' H' d v->Q v H'
def tB(f:B):TT:=fun σ H Q=>∃ρ ev S b S',EnvR K mg ρ H ev σ/\StOk K mg ρ H S/\f ev S=some (b,S') /\
 ∀ρ' H',Ext ρ H ρ' H'->StOk K mg ρ' H' S'->Q b H'
def tAs(f:As):TA:=fun σ H Q=>∃ρ ev S ds S',EnvR K mg ρ H ev σ/\StOk K mg ρ H S/\f ev S=some (ds,S') /\
 ∀vs ρ' H',Ext ρ H ρ' H'->StOk K mg ρ' H' S'->RepL K mg ρ' H' ds vs->Q vs H'
def Post(D:Ends)(S':Sto)(ρ:List Addr)(H:Hp):Out->Prop
 | .nx e=>∀σ' ρ' H',Ext ρ H ρ' H'->StOk K mg ρ' H' S'->EnvR K mg ρ' H' e σ'->D.nx σ' H'
 | .bk e=>∀σ' ρ' H',Ext ρ H ρ' H'->StOk K mg ρ' H' S'->EnvR K mg ρ' H' e σ'->D.bk σ' H'
 | .ct e=>∀σ' ρ' H',Ext ρ H ρ' H'->StOk K mg ρ' H' S'->EnvR K mg ρ' H' e σ'->D.ct σ' H'
 | .rt d=>∀v ρ' H',Ext ρ H ρ' H'->StOk K mg ρ' H' S'->Rep K mg ρ' H' d v->D.rt v H'
def tC(f:C):TS:=fun D σ H=>∃ρ ev S o S',EnvR K mg ρ H ev σ/\StOk K mg ρ H S/\f ev S=some (o,S')/\Post K mg D S' ρ H o
def spG(g:G):Sp:=fun vs H Q _=>∃ρ ds S d S',RepL K mg ρ H ds vs/\StOk K mg ρ H S/\g ds S=some (d,S') /\
 ∀v ρ' H',Ext ρ H ρ' H'->StOk K mg ρ' H' S'->Rep K mg ρ' H' d v->Q v H'
end
theorem Post.ext{K mg}{D:Ends}{S':Sto}{ρ ρ' H H'}(e:Ext ρ H ρ' H'):∀{o:Out},Post K mg D S' ρ H o->Post K mg D S' ρ' H' o
 | .nx _,h=>fun σ' _ _ e'=>h σ' _ _ (e.trans e')
 | .bk _,h=>fun σ' _ _ e'=>h σ' _ _ (e.trans e')
 | .ct _,h=>fun σ' _ _ e'=>h σ' _ _ (e.trans e')
 | .rt _,h=>fun v _ _ e'=>h v _ _ (e.trans e')
def FE(X:Cx)(e:Expr)(f:E):Prop:=PE X e (tE X.K X.mg f)
def FB(X:Cx)(e:Expr)(f:B):Prop:=PT X e (tB X.K X.mg f)
def FW(X:Cx)(e:Expr)(f:B):Prop:=PW X e (tB X.K X.mg f)
def FA(X:Cx)(es:List Expr)(f:As):Prop:=PA X es (tAs X.K X.mg f)
def FS(X:Cx)(st:Stmt)(f:C):Prop:=PS X st (tC X.K X.mg f)
def FSs(X:Cx)(st:List Stmt)(f:C):Prop:=PSs X st (tC X.K X.mg f)
theorem jo{X:Cx}{e:Expr}{t t':TE}(h:PE X e t)(m:∀σ H Q,t' σ H Q->t σ H Q):PE X e t':=fun pins s σ H Q I q=>h pins s σ H Q I (m _ _ _ q)
theorem zda{X:Cx}{e:Expr}{t t':TT}(h:PT X e t)(m:∀σ H Q,t' σ H Q->t σ H Q):PT X e t':=fun pins s σ H Q I q=>h pins s σ H Q I (m _ _ _ q)
theorem zlt{X:Cx}{e:Expr}{t t':TT}(h:PW X e t)(m:∀σ H Q,t' σ H Q->t σ H Q):PW X e t':=fun w pins s σ H Q I q=>h w pins s σ H Q I (m _ _ _ q)
theorem zlz{X:Cx}{e:List Expr}{t t':TA}(h:PA X e t)(m:∀σ H Q,t' σ H Q->t σ H Q):PA X e t':=fun pos pins s σ H Q I q=>h pos pins s σ H Q I (m _ _ _ q)
theorem kt{X:Cx}{e:Stmt}{t t':TS}(h:PS X e t)(m:∀σ H Q,t' Q σ H->t Q σ H):PS X e t':=fun pins s σ H Q I q=>h pins s σ H Q I (m _ _ _ q)
theorem zi2{X:Cx}{e:List Stmt}{t t':TS}(h:PSs X e t)(m:∀σ H Q,t' Q σ H->t Q σ H):PSs X e t':=fun pins s σ H Q I q=>h pins s σ H Q I (m _ _ _ q)
end F
namespace F
open PySem L2
noncomputable def eV(i:Nat):E:=fun ev S=>match ev[i]? with
 |some (some d)=>some (d,S)
 |_=>none
noncomputable def eK(d:D):E:=fun _ S=>some (d,S)
def e1(op:D->Option D)(f:E):E:=fun ev S=>(f ev S).bind fun p=>(op p.1).map fun d=>(d,p.2)
def e2(op:D->D->Option D)(f g:E):E:=fun ev S=>(f ev S).bind fun p=>(g ev p.2).bind fun q=>(op p.1 q.1).map fun d=>(d,q.2)
def e2s(op:Sto->D->D->Option D)(f g:E):E:=fun ev S=>(f ev S).bind fun p=>(g ev p.2).bind fun q=>(op q.2 p.1 q.1).map fun d=>(d,q.2)
def aN:As:=fun _ S=>some ([],S)
def aC(f:E)(g:As):As:=fun ev S=>(f ev S).bind fun p=>(g ev p.2).bind fun q=>some (p.1::q.1,q.2)
def eA(op:Sto->List D->Option D)(g:As):E:=fun ev S=>(g ev S).bind fun q=>(op q.2 q.1).map fun d=>(d,q.2)
def zk(g:G)(a:As):E:=fun ev S=>(a ev S).bind fun q=>g q.1 q.2
def ki(c:Str)(S:Sto):D->Option (Nat×List (Str×D))
 | .obj i=>match S[i]? with
   |some (.ins c' fs)=>if c'=c then some (i,fs)else none
   |_=>none
 |_=>none
def qc(c m:Str)(g:G)(f:E)(a:As):E:=fun ev S=>(f ev S).bind fun p=>(ki c p.2 p.1).bind fun r=>if r.2.lookup m=none then (a ev p.2).bind fun q=>g (p.1::q.1) q.2 else none
def zaf(c:Str)(g:G)(a:As):E:=fun ev S=>(a ev S).bind fun q=>(g (.obj q.2.length::q.1) (q.2++[.ins c []])).bind fun r=>match r.1 with
 | .non=>some (.obj q.2.length,r.2)
 |_=>none
def yw(c n:Str)(f:E):E:=fun ev S=>(f ev S).bind fun p=>(ki c p.2 p.1).bind fun r=>(r.2.lookup n).map fun d=>(d,p.2)
def zfn(g:As):E:=fun ev S=>(g ev S).bind fun q=>if q.1.length<=sizeLine then some (.obj q.2.length,q.2++[.lst q.1])else none
def kf(g:As):E:=eA (fun _ ds=>if ds.length<=sizeLine then some (.tup ds)else none) g
def zd7(g:As):E:=eA (fun _ ds=>if ds.length<=sizeLine then some (.lst ds)else none) g
def bE(f:E):B:=fun ev S=>(f ev S).bind fun p=>match p.1 with
 | .bl b=>some (b,p.2)
 |_=>none
def zhi(f:B):B:=fun ev S=>(f ev S).map fun p=>(!p.1,p.2)
def zkn(f g:B):B:=fun ev S=>(f ev S).bind fun p=>if p.1=true then g ev p.2 else some (false,p.2)
def bOr(f g:B):B:=fun ev S=>(f ev S).bind fun p=>if p.1=true then some (true,p.2)else g ev p.2
def zuj(f:E):E:=e1 (fun d=>match d with | .bl b=>some (.bl !b) | _=>none) f
def zuk(f g:E):E:=fun ev S=>(f ev S).bind fun p=>match p.1 with
 | .bl true=>g ev p.2
 | .bl false=>some (.bl false,p.2)
 |_=>none
def j8:C:=fun ev S=>some (.nx ev,S)
def zt(a b:C):C:=fun ev S=>(a ev S).bind fun p=>match p.1 with
 | .nx e=>b e p.2
 |o=>some (o,p.2)
def qx(f:E):C:=fun ev S=>(f ev S).map fun p=>(.rt p.1,p.2)
def zvc:C:=fun _ S=>some (.rt .non,S)
def xk(f:E):C:=fun ev S=>(f ev S).map fun p=>(.nx ev,p.2)
def qo(i:Nat)(f:E):C:=fun ev S=>(f ev S).map fun p=>(.nx (ev.set i (some p.1)),p.2)
def z10(i j:Nat)(f:As):C:=fun ev S=>(f ev S).bind fun p=>match p.1 with
 | [a,b]=>some (.nx ((ev.set i (some a)).set j (some b)),p.2)
 |_=>none
def zaj(ev:Ev):List Nat->List D->Option Ev
 | [],[]=>some ev
 |i::is,d::ds=>zaj (ev.set i (some d)) is ds
 |_,_=>none
def zud(is:List Nat)(f:E):C:=fun ev S=>(f ev S).bind fun p=>match p.1 with
 | .tup ds=>(zaj ev is ds).map fun e=>(.nx e,p.2)
 |_=>none
def sIf(c:B)(a b:C):C:=fun ev S=>(c ev S).bind fun p=>if p.1=true then a ev p.2 else b ev p.2
def zbp:C:=fun _ _=>none
def zd5(n:Str)(d:D):List (Str×D)->List (Str×D)
 | []=>[(n,d)]
 | (g,x)::r=>if g=n then (g,d)::r else (g,x)::zd5 n d r
def j9(c n:Str)(o v:E):C:=fun ev S=>(v ev S).bind fun p=>(o ev p.2).bind fun q=>(ki c q.2 q.1).bind fun r=>if r.2.length<1000 then some (.nx ev,q.2.set r.1 (.ins c (zd5 n p.1 r.2)))else none
def z1k(o i v:E):C:=fun ev S=>(v ev S).bind fun p=>(o ev p.2).bind fun q=>(i ev q.2).bind fun r=>match q.1,r.1 with
 | .obj a,.int k=>(match r.2[a]? with
   |some (.lst ds)=>(ixN ds.length k).map fun j=>(.nx ev,r.2.set a (.lst (ds.set j p.1)))
   |_=>none)
 |_,_=>none
def yk(o v:E):C:=fun ev S=>(o ev S).bind fun q=>match q.1 with
 | .obj a=>(match q.2[a]? with
   | some (.lst _)=>(v ev q.2).bind fun p=>(match p.2[a]? with
     |some (.lst ds)=>if ds.length<sizeLine then some (.nx ev,p.2.set a (.lst (ds++[p.1])))else none
     |_=>none)
   |_=>none)
 |_=>none
def zbh(i:Nat)(body:C):List D->Ev->Sto->Option (Out×Sto)
 | [],ev,S=>some (.nx ev,S)
 | d::ds,ev,S=>(body (ev.set i (some d)) S).bind fun p=>match p.1 with
   | .nx e=>zbh i body ds e p.2
   | .ct e=>zbh i body ds e p.2
   | .bk e=>some (.nx e,p.2)
   | .rt x=>some (.rt x,p.2)
def zlk(i:Nat)(f:E)(body:C):C:=fun ev S=>(f ev S).bind fun p=>match p.1 with
 | .lst ds=>zbh i body ds ev p.2
 |_=>none
def jb(lo:Int)(n:Nat):List D:=(List.range n).map fun k:Nat=>D.int (lo+(k:Int))
def zjx(i:Nat)(f:E)(body:C):C:=fun ev S=>(f ev S).bind fun p=>match p.1 with
 | .int j=>if -(2^62)<=j/\j<2^62 then zbh i body (jb 0 j.toNat) ev p.2 else none
 |_=>none
def zv(N n:Nat)(c:C):G:=fun ds S=>if ds.length=n then (match c (ds.map some++List.replicate (N-ds.length) none) S with
 |some (.nx _,S1)=>some (.non,S1)
 |some (.rt d,S1)=>some (d,S1)
 |_=>none)else none
theorem zy{α β:Type}{o:Option α}{f:α->Option β}{b:β}(h:o.bind f=some b):∃a,o=some a/\f a=some b:=by
 cases o with
 |none=>cases h
 |some a=>exact⟨a,rfl,h⟩
theorem zbf{α β:Type}{o:Option α}{f:α->β}{b:β}(h:o.map f=some b):∃a,o=some a/\f a=b:=by
 cases o with
 |none=>cases h
 |some a=>exact⟨a,rfl,z2n h⟩
section
variable {X:Cx}
def zhl(K:zFr)(mg:zMg)(R:R2)(op:Sto->D->D->Option D):Prop :=
 ∀(ρ:List Addr) (H:Hp) (S:Sto) (x y:V) (dx dy d:D) (Q:VK),StOk K mg ρ H S->Rep K mg ρ H dx x->Rep K mg ρ H dy y->op S dx dy=some d ->
   (∀v H',Ext ρ H ρ H'->StOk K mg ρ H' S->Rep K mg ρ H' d v->Q v H')->R x y H Q
def zn0(K:zFr)(mg:zMg)(R:List V->Hp->VK->Prop)(op:Sto->List D->Option D):Prop :=
 ∀(ρ:List Addr) (H:Hp) (S:Sto) (xs:List V) (ds:List D) (d:D) (Q:VK),StOk K mg ρ H S->RepL K mg ρ H ds xs->op S ds=some d ->
   (∀v H',Ext ρ H ρ H'->StOk K mg ρ H' S->Rep K mg ρ H' d v->Q v H')->R xs H Q
section
variable {K:zFr}{mg:zMg}{R R':R2}{op op':Sto->D->D->Option D}
theorem t2(hs:zhl K mg R op){f g:E}{σ:St}{H:Hp}{Q:VK}(h:tE K mg (e2s op f g) σ H Q):tOp R (tE K mg f) (tE K mg g) σ H Q:=by obtain⟨ρ,ev,S,d,S',hE,hS,hf,k⟩:=h;obtain⟨⟨x,S1⟩,q1,hf⟩:=zy hf;obtain⟨⟨y,S2⟩,q2,hf⟩:=zy hf;obtain⟨z,q3,hf⟩:=zbf hf;cases hf;refine⟨ρ,ev,S,x,S1,hE,hS,q1,fun v ρ1 H1 E1 hS1 r1=>⟨ρ1,ev,S1,y,S2,hE.mono E1,hS1,q2,fun u ρ2 H2 E2 hS2 r2=>?_⟩⟩;exact hs ρ2 H2 _ v u x y _ Q hS2 (r1.mono E2) r2 q3 fun w H' E3 hS3 r3=>k w ρ2 H' ((E1.trans E2).trans E3) hS3 r3
end
theorem zeu{o:Operator}{R:R2}{op:Sto->D->D->Option D}{a b:Expr}{f g:E}{pos:Pos}(ho:OpR X (binaryOp o) R)(hs:zhl X.K X.mg R op)(ha:FE X a f)(hb:FE X b g):FE X (.BinOp a o b pos) (e2s op f g) :=
 jo (zzd ho ha hb) fun _ _ _ h=>t2 hs h
theorem zjh{o:CmpOp}{R:R2}{op:Sto->D->D->Option D}{a b:Expr}{f g:E}{pos:Pos}(ho:OpR X (compareOp o) R)(hs:zhl X.K X.mg R op)(ha:FE X a f)(hb:FE X b g)(hm:behindInMarks o b=false):FE X (.Compare a [o] [b] pos) (e2s op f g) :=
 jo (zsx ho ha hb hm) fun _ _ _ h=>t2 hs h
theorem zri{K mg}{f:E}{t:TE}{σ:St}{H:Hp}{Q:Bool->Hp->Prop}(m:∀Q,tE K mg f σ H Q->t σ H Q)(h:tB K mg (bE f) σ H Q):zob t σ H Q:=by
 obtain⟨ρ,ev,S,b,S',hE,hS,hf,k⟩:=h;obtain⟨⟨x,S1⟩,q1,hf⟩:=zy hf;cases x with
 | bl c=>
   cases hf;refine m _ ⟨ρ,ev,S,_,_,hE,hS,q1,fun v ρ1 H1 E1 hS1 r1=>?_⟩;exact⟨b,r1,k ρ1 H1 E1 hS1⟩
 |_=>cases hf
theorem zby{o:CmpOp}{R:R2}{op:Sto->D->D->Option D}{a b:Expr}{f g:E}{pos:Pos}(ho:OpR X (compareOp o) R)(hs:zhl X.K X.mg R op)(ha:FE X a f)(hb:FE X b g)(hm:behindInMarks o b=false):FB X (.Compare a [o] [b] pos) (bE (e2s op f g)) :=
 zda (zsn ho ha hb hm) fun _ _ _ h=>zri (fun _ h=>t2 hs h) h
theorem zd(i:Nat){x:Str}{pos:Pos}(hN:X.N[i]? = some x:=by rfl)(hv:Vis X.env.scope x:=by first | exact Or.inl rfl | exact Or.inr (Or.inl rfl) | exact Or.inr (Or.inr rfl))(hd:(x==("__debug__":Str))=false:=by decide)
   (hcd:(x==("__classdict__":Str))=false:=by decide):FE X (.Name x pos) (eV i) :=
 jo (zgm hN hv hd hcd) fun σ H Q h=>by
   obtain⟨ρ,ev,S,d,S',hE,hS,hf,k⟩:=h;unfold eV at hf;split at hf
   · rename_i x e;cases hf;obtain⟨v,e1,r⟩:=hE.at_ i _ e;exact⟨v,e1,k v ρ H (Ext.refl _ _) hS r⟩
   · cases hf
theorem zae{e:Expr}{v:V}{d:D}(h:PE X e (L2.tC v))(r:∀ρ H,Rep X.K X.mg ρ H d v):FE X e (eK d) :=
 jo h fun σ H Q h=>by obtain⟨ρ,ev,S,d,S',hE,hS,hf,k⟩:=h;cases hf;exact k v ρ H (Ext.refl _ _) hS (r _ _)
theorem zl{i:Int}{j pos}:FE X (.Constant (.int i) j pos) (eK (.int i)):=zae zv4 fun _ _=>rfl
theorem yb{b:Bool}{j pos}:FE X (.Constant (.bool b) j pos) (eK (.bl b)):=zae zzg fun _ _=>rfl
theorem jn{j pos}:FE X (.Constant .none j pos) (eK .non):=zae zv3 fun _ _=>rfl
theorem xw{x:Str}{j pos}:FE X (.Constant (.str x) j pos) (eK (.str x)):=zae zv0 fun _ _=>rfl
theorem zu{x:Str}{n:Int}{pos:Pos}(hm:∃t,X.mg x=some (.int n t))(hg:Gl X x:=by rfl)(hd:(x==("__debug__":Str))=false:=by decide):FE X (.Name x pos) (eK (.int n)):=by obtain⟨t,hm⟩:=hm;exact zae (zly hg hm (v:=.int n) ⟨t,rfl⟩ hd) fun _ _=>rfl
theorem ya{x:Str}{pos:Pos}(hm:∃f,X.mg x=some (.ref f))(hg:Gl X x:=by rfl)(hd:(x==("__debug__":Str))=false:=by decide):FE X (.Name x pos) (eK (.fn x)):=by obtain⟨f,hm⟩:=hm;exact zae (zly hg hm (v:=.ref f) rfl hd) fun ρ H=>by unfold Rep;exact⟨f,rfl,hm⟩
theorem zb:FA X [] aN:=zlz zqj fun σ H Q h=>by obtain⟨ρ,ev,S,d,S',hE,hS,hf,k⟩:=h;cases hf;exact k [] ρ H (Ext.refl _ _) hS RepL.nil
theorem za{e:Expr}{es:List Expr}{f:E}{g:As}(ha:FE X e f)(hr:FA X es g)(hs:starEach (e::es) X.env=(false,eval e X.env)::starEach es X.env:=by exact zx rfl):FA X (e::es) (aC f g) :=
 zlz (zl0 ha hr hs) fun σ H Q h=>by obtain⟨ρ,ev,S,d,S',hE,hS,hf,k⟩:=h;obtain⟨⟨x,S1⟩,q1,hf⟩:=zy hf;obtain⟨⟨y,S2⟩,q2,hf⟩:=zy hf;cases hf;refine⟨ρ,ev,S,x,S1,hE,hS,q1,fun v ρ1 H1 E1 hS1 r1=>⟨ρ1,ev,S1,y,_,hE.mono E1,hS1,q2,fun vs ρ2 H2 E2 hS2 r2=>?_⟩⟩;exact k (v::vs) ρ2 H2 (E1.trans E2) hS2 (RepL.cons (r1.mono E2) r2)
theorem tA{K mg}{R:List V->Hp->VK->Prop}{op:Sto->List D->Option D}(hs:zn0 K mg R op){g:As}{σ:St}{H:Hp}{Q:VK}(h:tE K mg (eA op g) σ H Q):tAs K mg g σ H fun vs H1=>R vs H1 Q:=by obtain⟨ρ,ev,S,d,S',hE,hS,hf,k⟩:=h;obtain⟨⟨x,S1⟩,q1,hf⟩:=zy hf;obtain⟨z,q3,hf⟩:=zbf hf;cases hf;exact⟨ρ,ev,S,x,_,hE,hS,q1,fun vs ρ1 H1 E1 hS1 r1=>hs ρ1 H1 _ vs x _ Q hS1 r1 q3 fun w H' E3 hS3 r3=>k w ρ1 H' (E1.trans E3) hS3 r3⟩
theorem qi{es:List Expr}{g:As}{x1 pos}(h:FA X es g):FE X (.Tuple es x1 pos) (kf g) :=
 jo (zvz h) fun σ H Q h=>tA (K:=X.K) (mg:=X.mg) (R:=fun xs H1 Q=>xs.length<=sizeLine/\∀p,H1 p=none->Q (.ref p) (upd H1 p (.tup xs))) (fun ρ H S xs ds d Q hS r e k=>by
   split at e
   · rename_i hl;cases e;exact⟨by rw[<-r.length];exact hl,fun p hp=>k _ _ (x9 hS _ hp) (hS.new _ hp) (Rep.tup (s:=hS) hp r)⟩
   · cases e) h
theorem zax{es:List Expr}{g:As}{pos}(h:FA X es g):FE X (.List es pos) (zd7 g) :=
 jo (zqi h) fun σ H Q h=>tA (K:=X.K) (mg:=X.mg) (R:=fun xs H1 Q=>xs.length<=sizeLine/\∀p,H1 p=none->Q (.ref p) (upd H1 p (.lst xs))) (fun ρ H S xs ds d Q hS r e k=>by
   split at e
   · rename_i hl;cases e;exact⟨by rw[<-r.length];exact hl,fun p hp=>k _ _ (x9 hS _ hp) (hS.new _ hp) (Rep.lst (s:=hS) hp r)⟩
   · cases e) h
theorem zh1{es:List Expr}{g:As}{pos}(h:FA X es g):FE X (.List es pos) (zfn g) :=
 jo (zqi h) fun σ H Q h=>by
   obtain⟨ρ,ev,S,d,S',hE,hS,hf,k⟩:=h;obtain⟨⟨x,S1⟩,q1,hf⟩:=zy hf;dsimp only at hf;split at hf
   · rename_i hl;cases hf;refine⟨ρ,ev,S,x,S1,hE,hS,q1,fun vs ρ1 H1 E1 hS1 r1=>⟨by rw[<-r1.length];exact hl,fun p hp=>?_⟩⟩;refine k _ _ _ (E1.trans (zce hS1 _ hp)) (hS1.add hp ⟨vs,jd,r1.mono (zce hS1 _ hp)⟩) ?_;unfold Rep;refine⟨p,rfl,?_⟩;rw[z2j (by rw[hS1.len]<;>exact z16 _),hS1.len];simp
   · cases hf
theorem zdt{id:String}{R:List V->Hp->VK->Prop}{op:Sto->List D->Option D}{x:Str}{p pos:Pos}{e:Expr}{es:List Expr}{g:As}(hc:CallR X (.builtin id) R)(hs:zn0 X.K X.mg R op)(hm:X.mg x=none)(hv:bootBuiltins x=some (.builtin id))(ha:FA X (e::es) g)
   (hg:Gl X x:=by rfl) (hn:x≠"__name__":=by decide) (hdb:(x==("__debug__":Str))=false:=by decide)
   (he:starEach (e::es) X.env=(false,eval e X.env)::starEach es X.env:=by exact zx rfl) (hpl:(backTo pos (starEach es X.env)).any (·.1)=false:=by exact qt rfl):FE X (.Call (.Name x p) (e::es) [] pos) (eA op g) :=
 jo (zo0 hc hg hm hv ha hn hdb he hpl) fun σ H Q h=>tA hs h
theorem zz7{T:String}{R:List V->Hp->VK->Prop}{op:Sto->List D->Option D}{x:Str}{p pos:Pos}{e:Expr}{es:List Expr}{g:As}(hc:CallR X (.type T) R)(hs:zn0 X.K X.mg R op)(hm:X.mg x=none)(hv:bootBuiltins x=some (.type T))(ha:FA X (e::es) g)
   (hg:Gl X x:=by rfl) (hn:x≠"__name__":=by decide) (hdb:(x==("__debug__":Str))=false:=by decide)
   (he:starEach (e::es) X.env=(false,eval e X.env)::starEach es X.env:=by exact zx rfl) (hpl:(backTo pos (starEach es X.env)).any (·.1)=false:=by exact qt rfl):FE X (.Call (.Name x p) (e::es) [] pos) (eA op g) :=
 jo (zgn hc hg hm hv ha hn hdb he hpl) fun σ H Q h=>tA hs h
end
structure Cal (P:Program) (w:World) (K:zFr) (mg:zMg) (base:Heap) (k:Nat) (x:Str) (g:G):Prop where
 ex:∃(f:Addr) (fd:FuncData) (ps:List Str) (ds:List Value) (dvs:List V) (dds:List D) (gg:G),FnOk P w K mg base CX0 k f fd ps (spG K mg gg)/\mg x=some (.ref f)/\PySem.W.keepIn K (.ref f)=true /\
   Binds K fd ps ds/\Vals dvs ds/\(∀ρ H,RepL K mg ρ H dds dvs)/\∀args S r,g args S=some r->gg (args++dds) S=some r
structure Mth (P:Program) (w:World) (K:zFr) (mg:zMg) (base:Heap) (k:Nat) (c m:Str) (g:G):Prop where
 ex:∃(C f:Addr) (fd:FuncData) (ps:List Str) (ds:List Value) (dvs:List V) (dds:List D) (gg:G),FnOk P w K mg base CX0 k f fd ps (spG K mg gg)/\mg c=some (.ref C)/\Cls K C/\Meth K C m f /\
   Binds K fd ps ds/\Vals dvs ds/\(∀ρ H,RepL K mg ρ H dds dvs)/\∀args S r,g args S=some r->gg (args++dds) S=some r
structure Mak (P:Program) (w:World) (K:zFr) (mg:zMg) (base:Heap) (k:Nat) (c:Str) (g:G):Prop where
 ex:∃(C f:Addr) (fd:FuncData) (ps:List Str) (ds:List Value) (dvs:List V) (dds:List D) (gg:G),FnOk P w K mg base CX0 k f fd ps (spG K mg gg)/\mg c=some (.ref C)/\Mk K C f /\
   Binds K fd ps ds/\Vals dvs ds/\(∀ρ H,RepL K mg ρ H dds dvs)/\∀args S r,g args S=some r->gg (args++dds) S=some r
def Fld(K:zFr)(mg:zMg)(c n:Str):Prop:=∀C,mg c=some (.ref C)->Cls K C/\NoAttr K C n
section
variable {X:Cx}{k:Nat}{x c m n:Str}{g:G}{e o:Expr}{es:List Expr}{a:As}{f:E}{p pos apos:Pos}
theorem zir{K mg}{gg:G}{dds:List D}{dvs:List V}(hdd:∀ρ H,RepL K mg ρ H dds dvs)(hg:∀args S r,g args S=some r->gg (args++dds) S=some r){σ:St}{H:Hp}{Q:VK}(h:tE K mg (zk g a) σ H Q) :
   zro (spG K mg gg) dvs E0 (tAs K mg a) σ H Q:=by
 obtain⟨ρ,ev,S,d,S',hE,hS,hf,k⟩:=h;obtain⟨⟨ds,S1⟩,q1,hf⟩:=zy hf;exact⟨ρ,ev,S,ds,S1,hE,hS,q1,fun vs ρ1 H1 E1 hS1 r1=>⟨ρ1,ds++dds,S1,d,S',r1.append (hdd ρ1 H1),hS1,hg _ _ _ hf,fun v ρ' H' E' hS' r'=>k v ρ' H' (E1.trans E') hS' r'⟩⟩
theorem zf(cal:Cal X.prog X.w X.K X.mg X.base k x g)(hr:Room k X.A)(ha:FA X (e::es) a)(hg:Gl X x:=by rfl)(hdb:(x==("__debug__":Str))=false:=by decide)
   (he:starEach (e::es) X.env=(false,eval e X.env)::starEach es X.env:=by exact zx rfl) (hpl:(backTo pos (starEach es X.env)).any (·.1)=false:=by exact qt rfl) :
   FE X (.Call (.Name x p) (e::es) [] pos) (zk g a):=by
 obtain⟨f,fd,ps,ds,dvs,dds,gg,F,hm,hk,hb,hd,hdd,hgg⟩:=cal.ex;exact jo (zsy F hr hg hm hk hb hd zj4 ha hdb he hpl) fun σ H Q h=>zir hdd hgg h
theorem y6{c:Str}{S:Sto}{d:D}{r:Nat×List (Str×D)}(h:ki c S d=some r):d=.obj r.1/\S[r.1]? = some (.ins c r.2):=by
 unfold ki at h;split at h
 · split at h
   · rename_i i _ c' fs e;split at h
     · rename_i hc;cases h;subst hc;exact⟨rfl,e⟩
     · cases h
   · cases h
 · cases h
theorem zbd{K mg ρ H S}(hS:StOk K mg ρ H S){c:Str}{i:Nat}{fs:List (Str×D)}{v:V}(h:S[i]? = some (.ins c fs))(r:Rep K mg ρ H (.obj i) v) :
   ∃b C dx vs,v=.ref b/\ρ[i]? = some b/\mg c=some (.ref C)/\H b=some (.ins C dx vs)/\zul K mg ρ H fs vs:=by
 unfold Rep at r;obtain⟨b,rfl,e⟩:=r;obtain⟨C,dx,vs,h1,h2,h3⟩:=hS.ob i _ b h e;exact⟨b,C,dx,vs,rfl,e,h1,h2,h3⟩
theorem kx{fs:List (Str×D)}{vs:List (Str×V)}{m:Str}(h:vs.map (·.1)=fs.map (·.1))(e:fs.lookup m=none):vs.lookup m=none:=by
 induction fs generalizing vs with
 | nil=>
   cases vs with
   |nil=>rfl
   |cons _ _=>cases h
 | cons q fs ih=>
   cases vs with
   |nil=>cases h
   | cons q' vs=>
     obtain⟨a,b⟩:=q;obtain⟨a',b'⟩:=q';simp only[z2o,z3p]at h;obtain⟨h1,h2⟩:=h;subst h1;simp only[List.lookup]at e ⊢;split at e
     · cases e
     · exact ih h2 e
theorem zhx{K mg ρ H}{fs:List (Str×D)}{vs:List (Str×V)}{m:Str}{d:D}(h:zul K mg ρ H fs vs)(e:fs.lookup m=some d):∃v,vs.lookup m=some v/\Rep K mg ρ H d v:=by
 obtain⟨h,r⟩:=h
 induction fs generalizing vs with
 |nil=>cases e
 | cons q fs ih=>
   cases vs with
   |nil=>cases h
   | cons q' vs=>
     obtain⟨a,b⟩:=q;obtain⟨a',b'⟩:=q';simp only[z2o,z3p]at h;obtain⟨h1,h2⟩:=h;subst h1;rw[z2o,z2o]at r;unfold RepL at r;obtain⟨u,t,e1,r1,r2⟩:=r;cases e1;simp only[List.lookup]at e ⊢;split at e
     · cases e;exact⟨_,rfl,r1⟩
     · exact ih e h2 r2
theorem qa(mt:Mth X.prog X.w X.K X.mg X.base k c m g)(hr:Room k X.A)(ho:FE X o f)(ha:FA X (e::es) a){pl:Sem Bool}
   (hst:starEach (e::es) X.env=(false,eval e X.env)::starEach es X.env:=by exact zx rfl) (hpl:(backTo pos (starEach es X.env)).any (·.1)=false:=by exact qt rfl)
   (ht:eval (.Call (.Attribute o m apos) (e::es) [] pos) X.env=(do
     let ov <-eval o X.env
     standAt apos.atName
     let(f,first) <-holding [ov] (getMethod ov m pl)
     callWith pos f first (backTo pos (starEach (e::es) X.env)) (backToKw pos (keywordEach [] X.env))):=by rfl) :
   FE X (.Call (.Attribute o m apos) (e::es) [] pos) (qc c m g f a):=by
 obtain⟨C,fa,fd,ps,ds,dvs,dds,gg,F,hm,hc,hme,hb,hd,hdd,hgg⟩:=mt.ex;refine jo (zsv ho hc hme F hr hb hd zj4 ha hst hpl ht) fun σ H Q h=>?_;obtain⟨ρ,ev,S,d,S',hE,hS,hf,k⟩:=h;obtain⟨⟨y,S1⟩,q1,hf⟩:=zy hf;obtain⟨⟨i,fs⟩,q2,hf⟩:=zy hf;dsimp only at hf q2;split at hf
 · rename_i hl;obtain⟨⟨ys,S2⟩,q3,hf⟩:=zy hf;obtain⟨rfl,hi⟩:=y6 q2;refine⟨ρ,ev,S,_,S1,hE,hS,q1,fun v ρ1 H1 E1 hS1 r1=>?_⟩;obtain⟨b,C',dx,vs,rfl,hb1,hm',hb2,hb3⟩:=zbd hS1 hi r1;have ec:C'=C:=by rw[hm]at hm';cases hm';rfl
   subst ec;refine⟨b,dx,vs,rfl,hb2,kx hb3.1 hl,ρ1,ev,S1,ys,S2,hE.mono E1,hS1,q3,fun us ρ2 H2 E2 hS2 r2=>?_⟩;exact⟨ρ2,_,S2,d,S',(RepL.cons (r1.mono E2) r2).append (hdd ρ2 H2),hS2,hgg _ _ _ hf,fun v ρ' H' E' hS' r'=>k v ρ' H' ((E1.trans E2).trans E') hS' r'⟩
 · cases hf
theorem j6(mt:Mth X.prog X.w X.K X.mg X.base k c m g)(hr:Room k X.A)(ho:FE X o f){pl:Sem Bool}
   (ht:eval (.Call (.Attribute o m apos) [] [] pos) X.env=(do
     let ov <-eval o X.env
     standAt apos.atName
     let(f,first) <-holding [ov] (getMethod ov m pl)
     callWith pos f first (backTo pos (starEach [] X.env)) (backToKw pos (keywordEach [] X.env))):=by rfl) :
   FE X (.Call (.Attribute o m apos) [] [] pos) (qc c m g f aN):=by
 obtain⟨C,fa,fd,ps,ds,dvs,dds,gg,F,hm,hc,hme,hb,hd,hdd,hgg⟩:=mt.ex;refine jo (zoy ho hc hme F hr hb hd zj4 ht) fun σ H Q h=>?_;obtain⟨ρ,ev,S,d,S',hE,hS,hf,k⟩:=h;obtain⟨⟨y,S1⟩,q1,hf⟩:=zy hf;obtain⟨⟨i,fs⟩,q2,hf⟩:=zy hf;dsimp only at hf q2;split at hf
 · rename_i hl;obtain⟨⟨ys,S2⟩,q3,hf⟩:=zy hf;cases q3;obtain⟨rfl,hi⟩:=y6 q2;refine⟨ρ,ev,S,_,S1,hE,hS,q1,fun v ρ1 H1 E1 hS1 r1=>?_⟩;obtain⟨b,C',dx,vs,rfl,hb1,hm',hb2,hb3⟩:=zbd hS1 hi r1;have ec:C'=C:=by rw[hm]at hm';cases hm';rfl
   subst ec;refine⟨b,dx,vs,rfl,hb2,kx hb3.1 hl,?_⟩;exact⟨ρ1,_,S1,d,S',(RepL.cons r1 RepL.nil).append (hdd ρ1 H1),hS1,hgg _ _ _ hf,fun v ρ' H' E' hS' r'=>k v ρ' H' (E1.trans E') hS' r'⟩
 · cases hf
theorem zin{K mg}{gg:G}{C:Addr}{dds:List D}{dvs:List V}(hm:mg c=some (.ref C))(hdd:∀ρ H,RepL K mg ρ H dds dvs)(hg:∀args S r,g args S=some r->gg (args++dds) S=some r){σ:St}{H:Hp}{Q:VK}(h:tE K mg (zaf c g a) σ H Q) :
   zrl C (spG K mg gg) dvs E0 (tAs K mg a) σ H Q:=by
 obtain⟨ρ,ev,S,d,S',hE,hS,hf,k⟩:=h;obtain⟨⟨ds,S1⟩,q1,hf⟩:=zy hf;obtain⟨⟨y,S2⟩,q2,hf⟩:=zy hf;dsimp only at hf;cases y with
 | non=>
   cases hf;refine⟨ρ,ev,S,ds,S1,hE,hS,q1,fun vs ρ1 H1 E1 hS1 r1=>fun x dx nx ndx ne=>?_⟩;have s0:=hS1.new (.own x) ndx;have nx':upd H1 dx (.own x) x=none:=by rw[zw (z26 ne)];exact nx
   have e0:=x9 hS1 (.own x) ndx;have e1:=zce s0 (p:=x) (.ins C dx []) nx';have s1:StOk K mg (ρ1++[x]) (upd (upd H1 dx (.own x)) x (.ins C dx [])) (S1++[.ins c []]):=s0.add nx' ⟨C,dx,[],hm,jd,rfl,RepL.nil⟩;have ro:Rep K mg (ρ1++[x]) (upd (upd H1 dx (.own x)) x (.ins C dx [])) (.obj S1.length) (.ref x):=by unfold Rep;refine⟨x,rfl,?_⟩;rw[z2j (by rw[hS1.len]<;>exact z16 _),hS1.len];simp
   refine⟨ρ1++[x],_,_,.non,_,RepL.cons ro ((r1.mono (e0.trans e1)).append (hdd _ _)),s1,hg _ _ _ q2,fun v ρ' H' E' hS' r'=>⟨r',?_⟩⟩;exact k _ ρ' H' (E1.trans ((e0.trans e1).trans E')) hS' (ro.mono E')
 |_=>cases hf
theorem zcd(mk:Mak X.prog X.w X.K X.mg X.base k c g)(hr:Room (k+1) X.A)(ha:FA X (e::es) a)(hg:Gl X c:=by rfl)(hdb:(c==("__debug__":Str))=false:=by decide)
   (he:starEach (e::es) X.env=(false,eval e X.env)::starEach es X.env:=by exact zx rfl) (hpl:(backTo pos (starEach es X.env)).any (·.1)=false:=by exact qt rfl) :
   FE X (.Call (.Name c p) (e::es) [] pos) (zaf c g a):=by
 obtain⟨C,f,fd,ps,ds,dvs,dds,gg,F,hm,M,hb,hd,hdd,hgg⟩:=mk.ex;exact jo (zsw M F hr hg hm hb hd zj4 ha hdb he hpl) fun σ H Q h=>zin hm hdd hgg h
theorem zpn(mk:Mak X.prog X.w X.K X.mg X.base k c g)(hr:Room (k+1) X.A)(hg:Gl X c:=by rfl)(hdb:(c==("__debug__":Str))=false:=by decide) :
   FE X (.Call (.Name c p) [] [] pos) (zaf c g aN):=by
 obtain⟨C,f,fd,ps,ds,dvs,dds,gg,F,hm,M,hb,hd,hdd,hgg⟩:=mk.ex;refine jo (zoz M F hr hg hm hb hd zj4 hdb) fun σ H Q h=>?_;have h':=zin (C:=C) (gg:=gg) hm hdd hgg h;obtain⟨ρ,ev,S,d,S',hE,hS,hf,k⟩:=h';cases hf;exact k [] ρ H (Ext.refl _ _) hS RepL.nil
theorem jh(hc:Fld X.K X.mg c n)(ho:FE X o f)(hb:attributeBase o n X.env (eval o X.env)=eval o X.env:=by rfl):FE X (.Attribute o n pos) (yw c n f) :=
 jo (zv5 ho hb) fun σ H Q h=>by obtain⟨ρ,ev,S,d,S',hE,hS,hf,k⟩:=h;obtain⟨⟨y,S1⟩,q1,hf⟩:=zy hf;obtain⟨⟨i,fs⟩,q2,hf⟩:=zy hf;obtain⟨d',q3,hf⟩:=zbf hf;cases hf;obtain⟨rfl,hi⟩:=y6 q2;refine⟨ρ,ev,S,_,_,hE,hS,q1,fun v ρ1 H1 E1 hS1 r1=>?_⟩;obtain⟨b,C,dx,vs,rfl,hb1,hm',hb2,hb3⟩:=zbd hS1 hi r1;obtain⟨v,e1,r2⟩:=zhx hb3 q3;exact⟨b,C,dx,vs,v,rfl,hb2,(hc C hm').1,(hc C hm').2,e1,k v ρ1 H1 E1 hS1 r2⟩
def zba(ft:Str->Option G)(f:E)(a:As):E:=fun ev S=>(f ev S).bind fun p=>match p.1 with
 | .fn x=>(ft x).bind fun g=>(a ev p.2).bind fun q=>g q.1 q.2
 |_=>none
theorem zcy{fe:Expr}{ft:Str->Option G}(hT:∀x g,ft x=some g->Cal X.prog X.w X.K X.mg X.base k x g)(hr:Room k X.A)(hf:FE X fe f)(ha:FA X (e::es) a)
   (ht:eval (.Call fe (e::es) [] pos) X.env=(eval fe X.env >>= fun v=>callWith pos v [] (backTo pos (starEach (e::es) X.env)) (backToKw pos (keywordEach [] X.env))):=by rfl)
   (he:starEach (e::es) X.env=(false,eval e X.env)::starEach es X.env:=by exact zx rfl) (hpl:(backTo pos (starEach es X.env)).any (·.1)=false:=by exact qt rfl) :
   FE X (.Call fe (e::es) [] pos) (zba ft f a):=by
 intro pins s σ H Q I h;rw[ht];obtain⟨ρ,ev,S,d,S',hE,hS,hf',kk⟩:=h;obtain⟨⟨y,S1⟩,q1,hf'⟩:=zy hf';cases y with
 | fn x=>
   dsimp only at hf';obtain⟨g,hx,hf'⟩:=zy hf';obtain⟨f0,fd,ps,ds,dvs,dds,gg,F,hm,hk,hb,hd,hdd,hgg⟩:=(hT x g hx).ex;refine z12 (thn (hf pins s σ H (fun v H1=>v=.ref f0/\zro (spG X.K X.mg gg) dvs E0 (tAs X.K X.mg a) σ H1 Q) I ⟨ρ,ev,S,_,S1,hE,hS,q1,fun v ρ1 H1 E1 hS1 r1=>⟨?_,?_⟩⟩) fun u s1 ⟨v,H1,I1,rv,ev1,q⟩=>?_)
   · unfold Rep at r1;obtain⟨b,rfl,e1⟩:=r1;rw[hm]at e1;cases e1;rfl
   · exact zir (g:=g) hdd hgg ⟨ρ1,ev,S1,d,S',hE.mono E1,hS1,hf',fun v ρ' H' E' hS' r'=>kk v ρ' H' (E1.trans E') hS' r'⟩
   · subst ev1;obtain rfl:u=Value.ref f0:=rv;refine z3q (h₀:=X.base) I.ok.mod.kin hk (thn (ha pos pins s1 σ H1 _ I1 q) fun us s2 ⟨vs,H2,I2,r,q2⟩=>⟨I2.kIn,?_⟩) he hpl;exact ziv F hr hb hd zj4 I2 r q2
 |_=>cases hf'
theorem zay(h:FE X e f)(he:∀whole,isTrue e X.env whole=(do let v <-whole;standAt e.pos;holding [v] (truthy v)):=by intro _;rfl):FB X e (bE f) :=
 zda (zvr h he) fun σ H Q h=>by
   obtain⟨ρ,ev,S,b,S',hE,hS,hf,k⟩:=h;obtain⟨⟨x,S1⟩,q1,hf⟩:=zy hf;cases x with
   | bl c=>
     cases hf;exact⟨ρ,ev,S,_,_,hE,hS,q1,fun v ρ1 H1 E1 hS1 r1=>⟨b,r1,k ρ1 H1 E1 hS1⟩⟩
   |_=>cases hf
variable {b:Expr}{rest:List Expr}{u v:B}
theorem zbw(h:FB X e u):FB X (.UnaryOp .Not e pos) (zhi u):=zda (zvs h) fun σ H Q h=>by obtain⟨ρ,ev,S,b,S',hE,hS,hf,k⟩:=h;obtain⟨⟨x,S1⟩,q1,hf⟩:=zbf hf;cases hf;exact⟨ρ,ev,S,_,_,hE,hS,q1,fun ρ1 H1 E1 hS1=>k ρ1 H1 E1 hS1⟩
theorem zfk(h:FB X e u):FW X (.BoolOp .And [e] pos) u:=zsm h
theorem zqr(h:FB X e u):FW X (.BoolOp .Or [e] pos) u:=zvm h
theorem zjg(h:FB X e u)(hb:FW X (.BoolOp .And (b::rest) pos) v):FW X (.BoolOp .And (e::b::rest) pos) (zkn u v):=zlt (zvn h hb) fun σ H Q h=>by
 obtain⟨ρ,ev,S,b,S',hE,hS,hf,k⟩:=h;obtain⟨⟨x,S1⟩,q1,hf⟩:=zy hf;refine⟨ρ,ev,S,x,S1,hE,hS,q1,fun ρ1 H1 E1 hS1=>?_⟩;cases x with
 |true=>exact zye ⟨ρ1,ev,S1,b,S',hE.mono E1,hS1,hf,fun ρ2 H2 E2 hS2=>k ρ2 H2 (E1.trans E2) hS2⟩
 |false=>cases hf;exact zyf (k ρ1 H1 E1 hS1)
theorem zw3(h:FB X e u)(hb:FW X (.BoolOp .Or (b::rest) pos) v):FW X (.BoolOp .Or (e::b::rest) pos) (bOr u v):=zlt (zy4 h hb) fun σ H Q h=>by
 obtain⟨ρ,ev,S,b,S',hE,hS,hf,k⟩:=h;obtain⟨⟨x,S1⟩,q1,hf⟩:=zy hf;refine⟨ρ,ev,S,x,S1,hE,hS,q1,fun ρ1 H1 E1 hS1=>?_⟩;cases x with
 |true=>cases hf;exact zye (k ρ1 H1 E1 hS1)
 |false=>exact zyf ⟨ρ1,ev,S1,b,S',hE.mono E1,hS1,hf,fun ρ2 H2 E2 hS2=>k ρ2 H2 (E1.trans E2) hS2⟩
theorem zui(h:FW X e u):FB X e u:=h.pt
variable {g1 g2:E}
theorem zm2{op}(h:FE X e g1):FE X (.BoolOp op [e] pos) g1:=zv1 h
theorem zm4(h:FE X e g1)(hb:FE X (.BoolOp .And (b::rest) pos) g2):FE X (.BoolOp .And (e::b::rest) pos) (zuk g1 g2):=jo (zv6 h hb) fun σ H Q h=>by
 obtain⟨ρ,ev,S,d,S',hE,hS,hf,k⟩:=h;obtain⟨⟨x,S1⟩,q1,hf⟩:=zy hf;refine⟨ρ,ev,S,x,S1,hE,hS,q1,fun w ρ1 H1 E1 hS1 r1=>?_⟩;cases x with
 | bl c=>
   refine⟨c,r1,?_⟩;cases c with
   |true=>exact zye ⟨ρ1,ev,S1,d,S',hE.mono E1,hS1,hf,fun v ρ2 H2 E2 hS2 r2=>k v ρ2 H2 (E1.trans E2) hS2 r2⟩
   |false=>cases hf;exact zyf (k _ ρ1 H1 E1 hS1 rfl)
 |_=>cases hf
theorem zqw(h:FE X e g1):FE X (.UnaryOp .Not e pos) (zuj g1):=jo (zv2 h) fun σ H Q h=>by
 obtain⟨ρ,ev,S,d,S',hE,hS,hf,k⟩:=h;obtain⟨⟨x,S1⟩,q1,hf⟩:=zy hf;obtain⟨z,q2,hf⟩:=zbf hf;cases hf;refine⟨ρ,ev,S,x,_,hE,hS,q1,fun w ρ1 H1 E1 hS1 r1=>?_⟩;cases x with
 |bl c=>cases q2;exact⟨c,r1,k _ ρ1 H1 E1 hS1 rfl⟩
 |_=>cases q2
end
section
variable {X:Cx}{st:Stmt}{rest:List Stmt}{a b body:C}{e o:Expr}{f g h':E}{u:B}{pos pos':Pos}{x c n:Str}
theorem zp:FSs X [] j8:=zi2 zsp fun σ H D h=>by obtain⟨ρ,ev,S,o,S',hE,hS,hf,k⟩:=h;cases hf;exact k σ ρ H (Ext.refl _ _) hS hE
theorem zc(h1:FS X st a)(h2:FSs X rest b):FSs X (st::rest) (zt a b):=zi2 (zos h1 h2) fun σ H D h=>by
 obtain⟨ρ,ev,S,o,S',hE,hS,hf,k⟩:=h;obtain⟨⟨o1,S1⟩,q1,hf⟩:=zy hf;refine⟨ρ,ev,S,o1,S1,hE,hS,q1,?_⟩;cases o1 with
 |nx e=>exact fun σ' ρ' H' E' hS' hE'=>⟨ρ',e,S1,o,S',hE',hS',hf,k.ext E'⟩
 |rt d=>cases hf;exact k
 |bk e=>cases hf;exact k
 |ct e=>cases hf;exact k
theorem zh(h1:FS X st a):FSs X [st] a:=zso h1
theorem zn(h:FE X e f):FS X (.Return (some e) pos) (qx f):=kt (zvu h) fun σ H D h=>by obtain⟨ρ,ev,S,o,S',hE,hS,hf,k⟩:=h;obtain⟨⟨d,S1⟩,q1,hf⟩:=zbf hf;cases hf;exact⟨ρ,ev,S,d,_,hE,hS,q1,k⟩
theorem ztm:FS X (.Return none pos) zvc:=kt zsq fun σ H D h=>by obtain⟨ρ,ev,S,o,S',hE,hS,hf,k⟩:=h;cases hf;exact k .non ρ H (Ext.refl _ _) hS rfl
theorem za8:FS X st zbp:=kt zot fun σ H D h=>by obtain⟨ρ,ev,S,o,S',hE,hS,hf,k⟩:=h;cases hf
theorem qq(h:FE X e f)(hs:swapsWith e none pos.line X.env=pure false:=by rfl):FS X (.Expr e pos) (xk f):=kt (zlv h hs) fun σ H D h=>by obtain⟨ρ,ev,S,o,S',hE,hS,hf,k⟩:=h;obtain⟨⟨d,S1⟩,q1,hf⟩:=zbf hf;cases hf;exact⟨ρ,ev,S,d,_,hE,hS,q1,fun v ρ1 H1 E1 hS1 r1=>k σ ρ1 H1 E1 hS1 (hE.mono E1)⟩
theorem zo(i:Nat)(h:FE X e f)(hN:X.N.Nodup)(hi:X.N[i]? = some x:=by rfl)(hx:Loc X.env.scope x:=by first | exact Or.inl rfl | exact Or.inr rfl)(hs:swapsWith e (some (.Name x pos')) pos.line X.env=pure false:=by rfl)
   (hf:X.fn x=true\/X.env.scope.names.lookup x=some .local:=by first | exact .inl rfl | exact .inr rfl | assumption):FS X (.Assign [.Name x pos'] e pos) (qo i f) :=
 kt (zvt hN hi hx h hs hf) fun σ H D h=>by obtain⟨ρ,ev,S,o,S',hE,hS,hf,k⟩:=h;obtain⟨⟨d,S1⟩,q1,hf⟩:=zbf hf;cases hf;exact⟨ρ,ev,S,d,_,hE,hS,q1,fun v ρ1 H1 E1 hS1 r1=>k _ ρ1 H1 E1 hS1 ((hE.mono E1).set r1 i)⟩
inductive Names (X:Cx):List Expr->List Nat->TGs->Prop where
 |nil:Names X [] [] z02
 |cons {i:Nat}{x:Str}{px:Pos}{es:List Expr}{is:List Nat}{t:TGs} (hN:X.N.Nodup) (hi:X.N[i]? = some x) (hx:Loc X.env.scope x) (hf:X.fn x=true\/X.env.scope.names.lookup x=some .local) (h:Names X es is t) (p:PGs X (.Name x px::es) (zpk (zgt i) t)):Names X (.Name x px::es) (i::is) (zpk (zgt i) t)
theorem Names.pgs{es is t}(h:Names X es is t):PGs X es t:=by
 cases h with
 |nil=>exact zsu
 |cons _ _ _ _ _ p=>exact p
theorem zo6{K mg ρ H}{es is t}(h:Names X es is t):∀{ds:List D}{vs:List V}{ev ev':Ev}{σ:St}{Q:St->Hp->Prop},RepL K mg ρ H ds vs->EnvR K mg ρ H ev σ->zaj ev is ds=some ev'->(∀σ',EnvR K mg ρ H ev' σ'->Q σ' H)->t vs σ H Q:=by
 induction h with
 | nil=>
   intro ds vs ev ev' σ Q r hE e k;cases ds with
   | nil=>
     unfold RepL at r;unfold zaj at e;cases e;exact⟨r,k σ hE⟩
   |cons _ _=>unfold zaj at e;cases e
 | cons hN hi hx hf _ _ ih=>
   intro ds vs ev ev' σ Q r hE e k;cases ds with
   |nil=>unfold zaj at e;cases e
   | cons d ds=>
     unfold RepL at r;obtain⟨v,r',rfl,r1,r2⟩:=r;unfold zaj at e;exact⟨v,r',rfl,ih r2 (hE.set r1 _) e k⟩
theorem zek:∀{is:List Nat}{ds:List D}{ev ev':Ev},zaj ev is ds=some ev'->ds.length=is.length
 | [],[],_,_,_=>rfl
 |i::is,d::ds,_,_,h=>by unfold zaj at h;rw[List.length_cons,List.length_cons,zek h]
 | [],_::_,_,_,h=>by unfold zaj at h;cases h
 |_::_,[],_,_,h=>by unfold zaj at h;cases h
theorem zqs(is:List Nat){es:List Expr}{t:TGs}{k:Nat}{pt:Pos}(hn:Names X es is t)(h:FE X e f)(hc:X.calm=true:=by rfl)(hl:(assignEach es X.env).length=is.length:=by rfl)(hst:(assignEach es X.env).findIdx? (·.1)=none:=by rfl)
   (hs:swapsWithSole [.Tuple es k pt] e pos.line X.env=pure false:=by rfl) (hw:swappedStores [.Tuple es k pt] e X.env=pure none:=by rfl) (h1:(assignEach [.Tuple es k pt] X.env).map (·.2)=[assign (.Tuple es k pt) X.env]:=by rfl) :
   FS X (.Assign [.Tuple es k pt] e pos) (zud is f):=kt (zvw h (zvy hc hn.pgs hl hst) hs hw h1) fun σ H D h=>by
 obtain⟨ρ,ev,S,o,S',hE,hS,hf,k⟩:=h;obtain⟨⟨d,S1⟩,q1,hf⟩:=zy hf;cases d with
 | tup ds=>
   obtain⟨ev',q2,hf⟩:=zbf hf;cases hf;refine⟨ρ,ev,S,_,_,hE,hS,q1,fun v ρ1 H1 E1 hS1 r1=>?_⟩;unfold Rep at r1;obtain⟨p,vs,rfl,t,r⟩:=r1;exact⟨p,vs,rfl,t.sq,by rw[<-r.length];exact zek q2,zo6 hn r (hE.mono E1) q2 fun σ' hE'=>k σ' ρ1 H1 E1 hS1 hE'⟩
 |_=>cases hf
theorem qu(hc:FB X e u){sa sb:List Stmt}(ha:FSs X sa a)(hb:FSs X sb b):FS X (.If e sa sb pos) (sIf u a b):=kt (zzb hc ha hb) fun σ H D h=>by
 obtain⟨ρ,ev,S,o,S',hE,hS,hf,k⟩:=h;obtain⟨⟨x,S1⟩,q1,hf⟩:=zy hf;refine⟨ρ,ev,S,x,S1,hE,hS,q1,fun ρ1 H1 E1 hS1=>?_⟩;cases x with
 |true=>exact zye ⟨ρ1,ev,S1,o,S',hE.mono E1,hS1,hf,k.ext E1⟩
 |false=>exact zyf ⟨ρ1,ev,S1,o,S',hE.mono E1,hS1,hf,k.ext E1⟩
theorem zqg{K mg ρ H}{n:Str}{d:D}{v:V}(r:Rep K mg ρ H d v):∀{fs:List (Str×D)}{vs:List (Str×V)},zul K mg ρ H fs vs->zul K mg ρ H (zd5 n d fs) (zd4 n v vs)
 | [],vs,h=>by
   obtain⟨h1,_⟩:=h;cases vs with
   |nil=>exact⟨rfl,RepL.cons r RepL.nil⟩
   |cons _ _=>cases h1
 | (a,b)::fs,vs,h=>by
   obtain⟨h1,h2⟩:=h;cases vs with
   |nil=>cases h1
   | cons q vs=>
     obtain⟨a',b'⟩:=q;simp only[z2o,z3p]at h1;obtain⟨h3,h4⟩:=h1;subst h3;rw[z2o,z2o]at h2;unfold RepL at h2;obtain⟨u,t,e1,r1,r2⟩:=h2;cases e1;rw[show zd5 n d ((a',b)::fs)=(if a'=n then (a',d)::fs else (a',b)::zd5 n d fs)from rfl,show zd4 n v ((a',b')::vs)=(if a'=n then (a',v)::vs else (a',b')::zd4 n v vs)from rfl];by_cases hn:a'=n
     · rw[z2v hn,z2v hn];exact⟨by simp[h4],RepL.cons r r2⟩
     · rw[z2w hn,z2w hn];obtain⟨i1,i2⟩:=zqg r (fs:=fs) (vs:=vs) ⟨h4,r2⟩;exact⟨by rw[z2o,z2o,i1],RepL.cons r1 i2⟩
theorem yi(hc:Fld X.K X.mg c n)(ho:FE X o f)(hv:FE X e g)(hs:swapsWith e (some (.Attribute o n pos')) pos.line X.env=pure false:=by rfl):FS X (.Assign [.Attribute o n pos'] e pos) (j9 c n f g) :=
 kt (zvv ho hv hs) fun σ H D h=>by
   obtain⟨ρ,ev,S,o,S',hE,hS,hf,k⟩:=h;obtain⟨⟨d,S1⟩,q1,hf⟩:=zy hf;obtain⟨⟨y,S2⟩,q2,hf⟩:=zy hf;obtain⟨⟨i,fs⟩,q3,hf⟩:=zy hf;dsimp only at hf q3;split at hf
   · rename_i hl;cases hf;obtain⟨rfl,hi⟩:=y6 q3;refine⟨ρ,ev,S,d,S1,hE,hS,q1,fun v ρ1 H1 E1 hS1 r1=>⟨ρ1,ev,S1,_,S2,hE.mono E1,hS1,q2,fun w ρ2 H2 E2 hS2 r2=>?_⟩⟩;obtain⟨b,C,dx,vs,rfl,hb1,hm',hb2,hb3⟩:=zbd hS2 hi r2;have e0:=zh2 hS2 (.ins C dx (zd4 n v vs)) hb1;refine⟨b,C,dx,vs,rfl,hb2,(hc C hm').1,(hc C hm').2,by have:=z30 List.length hb3.1;simp at this;omega,?_⟩;have hf2:zul X.K X.mg ρ2 (upd H2 b (.ins C dx (zd4 n v vs))) (zd5 n d fs) (zd4 n v vs):=zqg ((r1.mono E2).mono e0) ⟨hb3.1,hb3.2.mono e0⟩;exact k σ ρ2 _ ((E1.trans E2).trans e0) (hS2.set hb1 ⟨C,dx,_,hm',jd,hf2⟩) (((hE.mono E1).mono E2).mono e0)
   · cases hf
section
variable {K:zFr}{mg:zMg}{ρ1:List Addr}{H1:Hp}{E:Ends}{S':Sto}{o:Out}{i:Nat}
def zn3(K:zFr)(mg:zMg)(ρ1:List Addr)(H1:Hp)(i:Nat)(body:C)(o:Out)(S':Sto)(ds:List D)(σ:St)(H:Hp):Prop :=
 ∃ρ ev S,Ext ρ1 H1 ρ H/\StOk K mg ρ H S/\EnvR K mg ρ H ev σ/\zbh i body ds ev S=some (o,S')
theorem zku{d:D}{ds:List D}{x:V}{σ:St}{H:Hp}{ρ:List Addr}{ev:Ev}{S:Sto}(k:Post K mg E S' ρ1 H1 o)(e0:Ext ρ1 H1 ρ H)(hS:StOk K mg ρ H S)(hE:EnvR K mg ρ H ev σ)(r:Rep K mg ρ H d x)(hl:zbh i body (d::ds) ev S=some (o,S')) :
   tC K mg body { E with nx:=zn3 K mg ρ1 H1 i body o S' ds,ct:=zn3 K mg ρ1 H1 i body o S' ds,bk:=E.nx } (σ.set i (some x)) H:=by
 obtain⟨⟨o1,S3⟩,q,hl⟩:=zy hl;refine⟨ρ,ev.set i (some d),S,o1,S3,hE.set r i,hS,q,?_⟩;cases o1 with
 |nx e=>exact fun σ' ρ' H' E' hS' hE'=>⟨ρ',e,S3,e0.trans E',hS',hE',hl⟩
 |ct e=>exact fun σ' ρ' H' E' hS' hE'=>⟨ρ',e,S3,e0.trans E',hS',hE',hl⟩
 |bk e=>cases hl;exact fun σ' ρ' H' E' hS' hE'=>k σ' ρ' H' (e0.trans E') hS' hE'
 |rt y=>cases hl;exact fun v ρ' H' E' hS' r'=>k v ρ' H' (e0.trans E') hS' r'
theorem zhj{σ:St}{H:Hp}(k:Post K mg E S' ρ1 H1 o)(h:zn3 K mg ρ1 H1 i body o S' [] σ H):E.nx σ H:=by obtain⟨ρ,ev,S,e0,hS,hE,hl⟩:=h;cases hl;exact k σ ρ H e0 hS hE
end
theorem ztn(i:Nat){l:Expr}{px:Pos}{sb:List Stmt}(hN:X.N.Nodup)(hl:FE X l f)(hb:FSs X sb body)(hp:PassesOwn (model X.prog X.w) X.A X.env X.xe)(hc:X.calm=true:=by rfl)(hi:X.N[i]? = some x:=by rfl)(hx:Loc X.env.scope x:=by first | exact Or.inl rfl | exact Or.inr rfl)
   (hf:X.fn x=true\/X.env.scope.names.lookup x=some .local:=by first | exact .inl rfl | exact .inr rfl | assumption) (hs:∀v,foldedSetIterable l X.env v=pure v:=by intro _;rfl) :
   FS X (.For (.Name x px) l sb [] pos) (zlk i f body) :=
 kt (zqh hp hc (zst hl) (ze8 hN hi hx hf) hb hs) fun σ H D h=>by
   obtain⟨ρ,ev,S,o,S',hE,hS,hf,k⟩:=h;obtain⟨⟨d,S1⟩,q1,hf⟩:=zy hf;cases d with
   | lst ds=>
     refine⟨ρ,ev,S,_,S1,hE,hS,q1,fun v ρ1 H1 E1 hS1 r1=>?_⟩;unfold Rep at r1;obtain⟨p,vs,rfl,t,r⟩:=r1;have k1:=k.ext E1;refine⟨p,rfl,⟨vs,t.sq⟩,zpl (K:=X.K) (a:=p) (xs:=vs) (fun j σ' H'=>zn3 X.K X.mg ρ1 H1 i body o S' (ds.drop j) σ' H') ⟨ρ1,ev,S1,Ext.refl _ _,hS1,hE.mono E1,hf⟩ (fun j σ' H' _ ⟨ρ',ev',S2,e0,_⟩=>(t.mono e0).sq) ?_ ?_⟩
     · rintro j y σ' H' hj ⟨ρ',ev',S2,e0,hS2,hE2,hl2⟩;have hjl:j<ds.length:=by rw[r.length];exact(z15.mp hj).1
       have ed:ds.drop j=ds[j]::ds.drop (j+1):=z3o hjl;obtain⟨y',ey,ry⟩:=(r.mono e0).get (z19 hjl);rw[hj]at ey;cases ey;rw[ed]at hl2;exact zku k1 e0 hS2 hE2 ry hl2
     · intro σ' H' ha;rw[z4t (by rw[r.length];exact z16 _)]at ha;exact zhj k1 ha
   |_=>cases hf
theorem zol{K mg}{ρ1:List Addr}{H1:Hp}{E:Ends}{S' S1:Sto}{o:Out}{i n:Nat}{lo:Int}{σ:St}{ev:Ev}(k:Post K mg E S' ρ1 H1 o)(hS1:StOk K mg ρ1 H1 S1)(hE:EnvR K mg ρ1 H1 ev σ)(hf:zbh i body (jb lo n) ev S1=some (o,S')) :
   ∃W:Nat->Nat->St->Hp->Prop,(∃m,W 0 m σ H1)/\∀j m σ H,W j m σ H ->
     ((Itr lo n).stop j H/\E.nx σ H)\/((Itr lo n).go j H/\∃N:St->Hp->Prop,(∀σ' H',N σ' H'->∃m',m'<m/\W (j+1) m' σ' H')/\∀x H',(Itr lo n).yld j H x H'->zgt i x σ H' fun σ2 H2=>tC K mg body { E with nx:=N,ct:=N,bk:=E.nx } σ2 H2):=by
 refine zm0 (g:=zgt i) (fun j σ' H'=>zn3 K mg ρ1 H1 i body o S' ((jb lo n).drop j) σ' H') ⟨ρ1,ev,S1,Ext.refl _ _,hS1,hE,hf⟩ ?_ ?_
 · rintro j σ' H' hj ⟨ρ',ev',S2,e0,hS2,hE2,hl2⟩;have hjl:j<(jb lo n).length:=by unfold jb;simpa using hj
   have ed:(jb lo n).drop j=(jb lo n)[j]::(jb lo n).drop (j+1):=z3o hjl;rw[ed]at hl2;refine zku k e0 hS2 hE2 ?_ hl2;have:(jb lo n)[j]=D.int (lo+(j:Int)):=by simp[jb]
   rw[this];exact rfl
 · intro σ' H' ha;rw[z4t (by unfold jb;simp)]at ha;exact zhj k ha
theorem zh0(i:Nat){l:Expr}{px p2 p3:Pos}{sb:List Stmt}(hN:X.N.Nodup)(hm:X.mg "range"=none)(hl:FE X l f)(hb:FSs X sb body)(hp:PassesOwn (model X.prog X.w) X.A X.env X.xe)(hg:Gl X "range":=by rfl)(hc:X.calm=true:=by rfl)(hi:X.N[i]? = some x:=by rfl)(hx:Loc X.env.scope x:=by first | exact Or.inl rfl | exact Or.inr rfl)
   (hf:X.fn x=true\/X.env.scope.names.lookup x=some .local:=by first | exact .inl rfl | exact .inr rfl | assumption) (hst:starEach [l] X.env=[(false,eval l X.env)]:=by exact zx rfl) (hs:∀v,foldedSetIterable (.Call (.Name "range" p2) [l] [] p3) X.env v=pure v:=by intro _;rfl) :
   FS X (.For (.Name x px) (.Call (.Name "range" p2) [l] [] p3) sb [] pos) (zjx i f body) :=
 kt (zqh hp hc (zgl hg hm (za hl zb hst) hst) (ze8 hN hi hx hf) hb hs) fun σ H D h=>by
   obtain⟨ρ,ev,S,o,S',hE,hS,hf,k⟩:=h;obtain⟨⟨d,S1⟩,q1,hf⟩:=zy hf;cases d with
   | int j=>
     dsimp only at hf;split at hf
     · rename_i hj;refine⟨ρ,ev,S,[.int j],S1,hE,hS,by simp only[aC,aN,q1,Option.bind_some],fun vs ρ1 H1 E1 hS1 r1=>?_⟩;unfold RepL at r1;obtain⟨v,r,rfl,r2,r3⟩:=r1;unfold RepL at r3;subst r3;exact⟨j,by rw[show v=.int j from r2],hj.1,hj.2,zol (k.ext E1) hS1 (hE.mono E1) hf⟩
     · cases hf
   |_=>cases hf
end
open PySem.Spec PyProof.Rows
structure FunD (K:zFr) (x qual:Str) (st:Stmt) (f:Addr) (fd:FuncData) (dV:Value):Prop where
 ex:∃(oc:Value) (od:Option Addr) (kV doc pm:Value) (an:Option Addr) (cdv ct:Value) (osl:Array (Option Value)),
   fd=PySem.W.fnOf x qual (za0 st) (j0 st) (zi st) dV kV doc pm an cdv ct/\K.lookup f=some ⟨oc,od,.func fd,osl⟩/\PySem.W.codeIn K cdv qual=true
 kp:PySem.W.keepIn K (.ref f)=true
theorem znu{N n c ds S r}(h:zv N n c ds S=some r):ds.length=n:=by
 unfold zv at h;split at h
 · rename_i hl;exact hl
 · cases h
theorem zt7{K mg}{c:C}{N:List Str}{n:Nat}{vs:List V}{H:Hp}{Q:VK}{E:XK}(h:spG K mg (zv N.length n c) vs H Q E):tC K mg c { nx:=fun _ H'=>Q .non H',rt:=Q } (start N vs) H:=by
 obtain⟨ρ,ds,S,d,S',r,hS,hf,k⟩:=h;unfold zv at hf;split at hf
 · split at hf
   · rename_i e S1 hc;cases hf;exact⟨ρ,_,S,_,_,EnvR.start r,hS,hc,fun σ' ρ' H' E' hS' _=>k .non ρ' H' E' hS' rfl⟩
   · rename_i e S1 hc;cases hf;exact⟨ρ,_,S,_,_,EnvR.start r,hS,hc,k⟩
   · cases hf
 · cases hf
theorem FunD.ok{P:Program}{w:World}{K:zFr}{mg:zMg}{base:Heap}{x qual:Str}{st:Stmt}{f:Addr}{fd:FuncData}{dV:Value}{N ps:List Str}{k:Nat}{c:C}(F:FunD K x qual st f fd dV)(S:FnScope N ps (zi st))
   (hbody:∀(cdv:Value) (A:Around) (outer:List Env) (s:Shared) (H:Hp) (E:XK),Room k (A.deeper (envOfC qual (zi st) s.heap.objs.size f cdv)) ->
     FSs (zd8 CX0 P w K mg base N qual (zi st) f cdv A outer s H E).nox (j0 st) c):FnOk P w K mg base CX0 (k+1) f fd ps (spG K mg (zv N.length ps.length c)):=by
 obtain⟨oc,od,kV,doc,pm,an,cdv,ct,osl,rfl,lk,hcd⟩:=F.ex;refine ztq lk hcd S (fun vs H Q E h=>?_) fun A outer s H vs Q E hr hsp=>?_
 · obtain⟨ρ,ds,S,d,S',r,hS,hf,k⟩:=h;rw[<-r.length];exact znu hf
 · exact⟨_,(hbody cdv A outer s H E hr).nox,zt7 hsp⟩
def zhk(cells:zLA):List (Str×NameKind)->zLA->zLA
 | [],acc=>acc
 | (n,k)::r,acc=>zhk cells r (if k=.free then (match cells.lookup n with | some c=>(n,c)::acc | none=>acc)else acc)
theorem zc0{cells:zLA}:∀{names:List (Str×NameKind)}{acc:zLA},(∀x c,acc.lookup x=some c->cells.lookup x=some c)->∀x c,(zhk cells names acc).lookup x=some c->cells.lookup x=some c
 | [],_,h=>h
 | (n,k)::r,acc,h=>by
   unfold zhk;refine zc0 (names:=r) ?_;intro x c;split
   · split
     · rename_i c' e;intro q;simp only[List.lookup]at q;split at q
       · rename_i hx;cases q;rw[z3k.mp hx];exact e
       · exact h x c q
     · exact h x c
   · exact h x c
theorem zjl{cells:zLA}{x:Str}:∀{names:List (Str×NameKind)}{acc:zLA},(∃c,acc.lookup x=some c)->∃c,(zhk cells names acc).lookup x=some c
 | [],_,h=>h
 | (n,k)::r,acc,h=>by
   unfold zhk;refine zjl (names:=r) ?_;split
   · split
     · rename_i c' e;simp only[List.lookup];split
       · exact⟨_,rfl⟩
       · exact h
     · exact h
   · exact h
theorem zfs{cells:zLA}{x:Str}(hx:∃c,cells.lookup x=some c):∀{names:List (Str×NameKind)}{acc:zLA},(x,NameKind.free)∈names->∃c,(zhk cells names acc).lookup x=some c
 | [],_,h=>by cases h
 | (n,k)::r,acc,h=>by
   unfold zhk;rcases z2l.mp h with e | h
   · cases e;refine zjl ?_;obtain⟨c,hc⟩:=hx;rw[z2v rfl,hc];exact⟨c,by simp[List.lookup]⟩
   · exact zfs hx h
theorem zfr{scope:Scope}{env:Env}(h:∀p∈scope.names,p.2=NameKind.free->∃c,env.cells.lookup p.1=some c):closureFor scope env=pure (zhk env.cells scope.names []):=by
 unfold closureFor;generalize scope.names=names at h;have key:∀(names:List (Str×NameKind)) (acc:zLA),(∀p∈names,p.2=NameKind.free->∃c,env.cells.lookup p.1=some c) ->
     (forIn names acc fun(x:Str×NameKind) (cs:zLA)=>(do
       if(x.2==NameKind.free)=true then do
         let a <-cellOf env x.1
         pure (ForInStep.yield ((x.1,a)::cs))
       else pure (ForInStep.yield cs):Sem (ForInStep (zLA))))=pure (zhk env.cells names acc):=by
   intro names
   induction names with
   |nil=>intro acc _;rfl
   | cons p r ih=>
     intro acc h;obtain⟨n,k⟩:=p;rw[List.forIn_cons];unfold zhk;by_cases hk:k=.free
     · subst hk;obtain⟨c,hc⟩:=h (n,.free) z2z rfl;have hc':env.cells.lookup n=some c:=hc;simp only[beq_self_eq_true,z37,cellOf,hc',pure_bind];exact ih _ fun q hq=>h q (z2e _ hq)
     · have hb:(k==NameKind.free)=false:=by simpa using hk
       simp only[hb,z21,z36,pure_bind,z2w hk];exact ih _ fun q hq=>h q (z2e _ hq)
 have:=key names [] h
 first
   | (simp only[bind_pure];exact this)
   | (rw[show(fun(x:Str×NameKind) (cs:zLA)=>_)=_ from rfl];exact this)
   |exact this
def zqy(ev:Ev)(i:Nat):Option D:=match ev[i]? with
 |some o=>o
 |none=>none
def zga(σ:L2.St)(i:Nat):Option V:=match σ[i]? with
 |some o=>o
 |none=>none
def zgy(g:E)(fr:Ev):List D->Sto->Option (List D×Sto)
 | [],S=>some ([],S)
 |d::ds,S=>(g (some d::fr) S).bind fun p=>(zgy g fr ds p.2).bind fun q=>some (p.1::q.1,q.2)
def zev(fr:List Nat)(f g:E):E:=fun ev S=>(f ev S).bind fun p=>match p.1 with
 | .int j=>if -(2^62)<=j/\j<2^62/\j<=(sizeLine:Int)then (zgy g (fr.map (zqy ev)) (jb 0 j.toNat) p.2).map fun q=>(.lst q.1,q.2)else none
 |_=>none
def zew(X:Cx)(N':List Str)(scope:Scope)(s₀:Shared)(H₀:Hp)(C:Addr)(ex:List Addr):Cx :=
 { X with N:=N',s₀:=s₀,H₀:=H₀,env:=compEnvC scope (zhk X.env.cells scope.names []) C X.env,outer:=X.stack,ex:=ex,fn:=fun _=>false,pn:=[],xe:=fun _ _=>False }
section
variable {X:Cx}{pins:zAO}{σ:L2.St}{H:Hp}{s:Shared}{scope:Scope}{x:Str}{N':List Str}{fr:List Nat}
structure CompOk (X:Cx) (scope:Scope) (x:Str) (N':List Str) (fr:List Nat):Prop where
 nd:(x::N').Nodup
 hx:scope.names.lookup x=some .local
 kind:scope.kind=.function
 frn:fr.map (fun j=>X.N[j]?)=N'.map some
 frk:∀y∈N',X.env.kindOf y=some .cell/\(relabel scope X.env).names.lookup y=some .cell
 chk:∀p∈scope.names,p.2≠.cell/\(p.2=.free->X.env.kindOf p.1=some .cell)/\(p.2=.local->scope.names.lookup p.1=some .local)
theorem zgx(nd:(x::N').Nodup)(hx:scope.names.lookup x=some .local)(kind:scope.kind=.function)(frn:fr.map (fun j=>X.N[j]?)=N'.map some)
   (frk:(N'.all fun y=>X.env.kindOf y==some NameKind.cell&&(relabel scope X.env).names.lookup y==some NameKind.cell)=true)
   (chk:(scope.names.all fun p=>p.2 != NameKind.cell&&(p.2 != NameKind.free||X.env.kindOf p.1==some NameKind.cell)&&(p.2 != NameKind.local||scope.names.lookup p.1==some NameKind.local))=true):CompOk X scope x N' fr:=by
 refine⟨nd,hx,kind,frn,fun y hy=>?_,fun p hp=>?_⟩
 · have:=z2p.mp frk y hy;simpa using this
 · have:=z2p.mp chk p hp;simp only[z2t,Bool.or_eq_true,bne_iff_ne,z3k]at this;exact⟨this.1.1,fun e=>this.1.2.resolve_left (fun z=>z e),fun e=>this.2.resolve_left (fun z=>z e)⟩
theorem zel{α:Type}{x:Str}{k:α}:∀{l:List (Str×α)},l.lookup x=some k->(x,k)∈l
 | [],h=>by cases h
 | (n,a)::r,h=>by
   simp only[List.lookup]at h;split at h
   · rename_i e;cases h;rw[z3k.mp e];exact z2z
   · exact z2e _ (zel h)
theorem CompOk.free(c:CompOk X scope x N' fr){y:Str}(h:(relabel scope X.env).names.lookup y=some .cell\/(relabel scope X.env).names.lookup y=some .free):(y,NameKind.free)∈scope.names:=by
 have go:∀k,(k=NameKind.cell\/k=.free)->(relabel scope X.env).names.lookup y=some k->(y,NameKind.free)∈scope.names:=by
   intro k hk e;have m:=zel e;unfold relabel at m;obtain⟨⟨n,k0⟩,hm,e2⟩:=List.mem_map.mp m;dsimp only at e2;split at e2
   · rename_i hc;cases e2;have:k0=.free:=by rw[z2t,z2t]at hc;simpa using hc.1.1
     subst this;exact hm
   · cases e2;rcases hk with rfl | rfl
     · exact absurd rfl (c.chk _ hm).1
     · exact hm
 rcases h with h | h
 · exact go _ (.inl rfl) h
 · exact go _ (.inr rfl) h
theorem CompOk.start(c:CompOk X scope x N' fr)(I:Inv X pins σ H s){fp:List Addr}(hf:∀b∈fp,zrb X pins H b)(hfl:∀b∈fp,b<s.heap.objs.size){C:Addr}(hC:s.heap.objs.size<=C){h1:Heap}{m:zMg}{t':Nat}(hk:∀b o,s.heap.get? b=some o->h1.get? b=some o)(hn:h1.Ns C m) :
   Inv (zew X (x::N') scope s H C fp) [] (none::fr.map (zga σ)) H { s with heap:=h1,toks:=t' }:=by
 have sub:∀y a,(zhk X.env.cells scope.names []).lookup y=some a->X.env.cells.lookup y=some a:=zc0 (fun _ _ h=>by cases h);have hfs:∀b∈frs X.stack,H b=none:=I.stkFree;have cellt:∀y a,X.env.cells.lookup y=some a->a<s.heap.objs.size:=fun y a e=>by obtain⟨v,q⟩:=I.cell y a e;exact q.lt
 refine⟨⟨I.ok.mod,c.kind,I.ok.glob,I.ok.blt,hC,fun y z a h1 h2=>I.ok.inj y z a (sub _ _ h1) (sub _ _ h2),fun y hy=>?_,fun y a h=>?_,I.ok.hd,I.ok.frames,.inl rfl,fun b hb=>⟨z2f (z18 (hfl b hb) hC),fun y a e=>(hf b hb).2.2.2.2.1 y a (sub _ _ e)⟩,I.bs,z2h I.ok.bsz I.sz,fun b o e hb=>?_,fun b hb z=>?_,I.stack,hfs⟩,
   rfl,I.bare,Un.kept hk,⟨m,hn,fun i y v e1 e2 e3=>?_⟩,fun y a e=>?_,I.hok.fresh hC,fun y a e=>I.freeC y a (sub _ _ e),fun p hp=>absurd hp (by simp[zew]),I.hok.kept hk,?_⟩
 · exact zfs (I.ok.has y (.inl ((c.chk _ (c.free hy)).2.1 rfl))) (c.free hy)
 · cases h
 · have:=(I.bs b o e).1;have z:=hf b hb;rcases z.2.2.2.1 with z | z
   · exact I.ok.noex b o e z
   · have:=(I.ok.bs b o e).1;exact absurd (z18 (z2c this) z) (z3n _)
 · rcases z2l.mp (I.stkSub b z)with e | e
   · exact(hf b hb).2.1 e
   · exact(hf b hb).2.2.1 e
 · cases i with
   |zero=>simp at e2
   | succ i=>
     have e1:N'[i]? = some y:=by simpa [zew] using e1
     have e2:(fr.map (zga σ))[i]? = some (some v):=by simpa using e2
     rw[z3l]at e2;cases ej:fr[i]? with
     |none=>rw[ej]at e2;cases e2
     | some j=>
       rw[ej]at e2;have e2:zga σ j=some v:=by simpa using e2
       have hv:σ[j]? = some (some v):=by
         unfold zga at e2;split at e2
         · rename_i o ho;rw[ho,e2]
         · cases e2
       have hN:X.N[j]? = some y:=by have q:=z30 (fun l=>l[i]?) c.frn;simp only[z3l,ej,e1,Option.map_some,Option.some.injEq]at q;exact q
       obtain⟨k1,k2⟩:=c.frk y (z4c e1);obtain⟨mm,_,hl⟩:=I.loc;obtain⟨u,r,l⟩:=hl j y v hN hv (.inr (.inl k1));refine⟨u,r,?_⟩;rcases l with⟨k,_⟩ | ⟨_,a,ha,hcl⟩
       · rw[k1]at k;cases k
       · refine .inr ⟨.inl k2,a,?_,?_⟩
         · obtain⟨a',ha'⟩:=zfs (cells:=X.env.cells) (names:=scope.names) (acc:=[]) ⟨a,ha⟩ (c.free (.inl k2));have:=sub _ _ ha';rw[ha]at this;cases this;exact ha'
         · obtain⟨o,ho,hd⟩:=hcl;exact⟨o,hk _ _ ho,hd⟩
 · obtain⟨v,o,ho,hd⟩:=I.cell y a (sub _ _ e);exact⟨v,o,hk _ _ ho,hd⟩
 · have:=z30 List.length c.frn;simp at this;simp[zew,this]
theorem Inv.track{p:Addr}{ys:List V}{its:List Value}{n:Nat}(I:Inv X pins σ H s)(hn:H p=none)(ho:s.heap.get? p=some { cls:=.type "list",data:=.seq its.toArray n })(r:Vals ys its)(hz:ys.length<=sizeLine)
   (h1:p∈X.ex\/X.s₀.heap.objs.size<=p) (hL:p≠X.env.locals) (h2:∀x c,X.env.cells.lookup x=some c->c≠p) (h3:∀q∈X.pn++pins,q.1≠p):Inv X pins σ (upd H p (.lst ys)) s:=by
 refine I.step (g':=s.gens) (d':=s.drawn) (h':=s.heap) (t':=s.toks) (ch:=[p]) (fun b hb=>?_) (fun b o _ _ _ e _=>e) (fun b o _ _ _ e _=>⟨o.slots,e⟩) (fun b o hc e n=>?_) (fun b o _ e=>⟨o,e⟩) (fun b xs e=>?_) (fun b o u e=>?_) (fun b ps e=>⟨#[],?_⟩) (fun _ hm=>hm) (fun b u e=>?_) I.bare
 · rw[z20.mp hb];exact⟨h1,hL,h2,h3⟩
 · rw[zw (fun z=>hc (by simp[z]))];exact n
 · rw[zw (z9 e hn)];exact e
 · rw[zw (z9 e hn)];exact e
 · rw[zw (z9 e hn),e];simp
 · by_cases hb:b=p
   · subst hb;rw[jd]at e;cases e;exact⟨hz,its,n,r,ho⟩
   · rw[zw hb]at e;exact(I.hok b u e).stay (fun _ _ _ q=>q) (fun c q=>by rw[zw (z9 q hn)];exact q) fun c xs q=>by rw[zw (z9 q hn)];exact q
theorem zsg{P:Program}{w:World}{H:Hp}{h h':Heap}{c:Addr}(hok:HOk P w H h)(hs:Heap.SameBut c h h')(hn:H c=none):HOk P w H h':=fun b ob e=>by
 refine(hok b ob e).stay (fun d o hd q=>(hs.2 d ?_).trans q) (fun _ q=>q) fun _ _ q=>q;rintro rfl;rcases hd with rfl | hd
 · rw[hn]at e;cases e
 · rw[hn]at hd;cases hd
def z0n(X X':Cx)(g:E)(fre:Ev)(t:L2.St)(fp:List Addr)(tn:Nat->Heap->Prop)(Dl:Addr)(n:Nat)(ρ1:List Addr)(H2:Hp)(ds:List D)(Sf:Sto)(m:Nat)(st:Shared):Prop :=
 ∃(i:Nat) (ρ':List Addr) (H':Hp) (ys:List V) (its:List Value) (acc rest:List D) (Si:Sto) (w:Option V),m=n-i/\i<=n/\Inv X' [] (w::t) H' st/\tn i st.heap/\(∀b∈fp,H' b=none)/\H' Dl=none/\st.heap.PlainList Dl (List.toArray its)/\Vals ys its /\
   Ext ρ1 H2 ρ' H'/\StOk X.K X.mg ρ' H' Si/\RepL X.K X.mg ρ' H' acc ys/\acc.length=i/\zgy g fre ((jb 0 n).drop i) Si=some (rest,Sf)/\ds=acc++rest
end
def IB(i:Int):Prop:=i.natAbs<2^4096
instance (i:Int):Decidable (IB i):=inferInstanceAs (Decidable (_<_))
def zz:D->D->Option D
 | .int i,.int j=>some (.int (i+j))
 | .str x,.str y=>if x.length+y.length<=sizeLine then some (.str (x++y))else none
 | .lst a,.lst b=>if a.length+b.length<=sizeLine then some (.lst (a++b))else none
 | .tup a,.tup b=>if a.length+b.length<=sizeLine then some (.tup (a++b))else none
 |_,_=>none
def opI(g:Int->Int->Option Int):D->D->Option D
 | .int i,.int j=>(g i j).map D.int
 |_,_=>none
def opIB(g:Int->Int->Bool):D->D->Option D
 | .int i,.int j=>some (.bl (g i j))
 |_,_=>none
def zyb(i j:Int):Option Int:=if(-(2^64)<i/\i<2^64)\/(-(2^64)<j/\j<2^64)\/(IB i/\IB j)then some (i*j)else none
def z0f(i j:Int):Option Int:=if 0<j/\j<1073741824 then some (i/j)else none
def zzm(i j:Int):Option Int:=if 0<j then some (i%j)else none
def zx8(i j:Int):Option Int:=if 0<=j/\j<=1000000/\i.natAbs<2^64 then some (i^j.toNat)else none
def yd:D->D->Option D:=opI fun i j=>some (i-j)
def ye:D->D->Option D:=opI zyb
def zbr:D->D->Option D:=opI z0f
def jq:D->D->Option D:=opI zzm
def zo3:D->D->Option D:=opI zx8
def zdb:D->D->Option D:=opIB fun i j=>decide (i<j)
def zco:D->D->Option D:=opIB fun i j=>decide (i<=j)
def zfa:D->D->Option D:=opIB fun i j=>decide (j<i)
def zl4:D->D->Option D:=opIB fun i j=>decide (j<=i)
def zmp:D->Bool
 | .non=>true
 |_=>false
def zd6:D->D->Option D
 |d,.non=>some (.bl (zmp d))
 | .bl a,.bl b=>some (.bl (a==b))
 |_,_=>none
def km:D->D->Option D
 |d,.non=>some (.bl (!zmp d))
 | .bl a,.bl b=>some (.bl (a != b))
 |_,_=>none
def qj(S:Sto):D->D->Option D
 | .lst ds,.int i=>atI ds i
 | .tup ds,.int i=>atI ds i
 | .str z,.int i=>if z.length<=sizeLine then (atI z.cps.toList i).map fun c=>.str ⟨#[c]⟩else none
 | .obj a,.int i=>(match S[a]? with
   |some (.lst ds)=>atI ds i
   |_=>none)
 |_,_=>none
section
variable {X:Cx}{K:zFr}{mg:zMg}
theorem Rep.refI{ρ H i v}(h:Rep K mg ρ H (.int i) v):v=.int i:=h
theorem Rep.refS{ρ H i v}(h:Rep K mg ρ H (.str i) v):v=.str i:=h
theorem Rep.refT{ρ H ds v}(h:Rep K mg ρ H (.tup ds) v):∃p vs,v=.ref p/\TupAt K ρ H p vs/\RepL K mg ρ H ds vs:=by unfold Rep at h;exact h
theorem Rep.refL{ρ H ds v}(h:Rep K mg ρ H (.lst ds) v):∃p vs,v=.ref p/\LstAt K ρ H p vs/\RepL K mg ρ H ds vs:=by unfold Rep at h;exact h
def zvl(K:zFr):R2:=fun x y H Q=>∃l b xs zs,x=.ref l/\y=.ref b/\SqL K H l xs/\SqL K H b zs/\xs.length+zs.length<=sizeLine/\∀p,H p=none->Q (.ref p) (upd H p (.lst (xs++zs)))
theorem op_catL:OpR X (binaryOp .Add) (zvl X.K):=by
 intro pins s σ H x y v u Q I rx ry h;obtain⟨l,b,xs,zs,rfl,rfl,hH,hB,hz,q⟩:=h;cases rx;cases ry;obtain⟨its,r,pl,_⟩:=I.list hH;obtain⟨its2,r2,pl2,_⟩:=I.list hB;obtain⟨⟨cls,dd,data,sl⟩,ho,hc,n,hd⟩:=pl.isList;obtain⟨⟨cls2,dd2,data2,sl2⟩,ho2,hc2,n2,hd2⟩:=pl2.isList;simp only at hc hd hc2 hd2;subst hc hd hc2 hd2;have e:its.toArray++its2.toArray=(its++its2).toArray:=by simp
 have h1:=r.length;have h2:=r2.length;refine z5v ⟨_,ho,rfl⟩ ⟨_,ho2,rfl⟩ noFill_list_add seq_list_add PySem.F.slot_list_add PySem.F.entry_list_add (PySem.F.args_list_add_2 _ _) (list_addW l b its.toArray its2.toArray n n2 dd dd2 sl sl2 (by simp only[z17];omega)) ⟨ho,ho2,?_⟩;rw[e];exact⟨.ref _,_,I.lnew (t':=s.toks) (r.append r2) (by rw[z13];omega),rfl,q _ I.fresh⟩
def zqf(K:zFr):R2:=fun x y H Q=>∃a b ys,x=.ref a/\y=.ref b/\SqT K H a []/\SqT K H b ys/\Q (.ref b) H
theorem zo2:OpR X (binaryOp .Add) (zqf X.K):=by
 intro pins s σ H x y v u Q I rx ry h;obtain⟨a,b,ys,rfl,rfl,ha,hb,q⟩:=h;cases rx;cases ry;obtain⟨its,r1,p1,_⟩:=I.tuple ha;obtain⟨its2,r2,p2,_⟩:=I.tuple hb;cases r1;obtain⟨⟨cls,dd,data,sl⟩,ho,hc,n,hd⟩:=id p1;obtain⟨⟨cls2,dd2,data2,sl2⟩,ho2,hc2,n2,hd2⟩:=id p2;simp only at hc hd hc2 hd2;subst hc hd hc2 hd2;exact z5v ⟨_,ho,rfl⟩ ⟨_,ho2,rfl⟩ noFill_tuple_add seq_tuple_add z4s z4o (z4j _ _)
   (tuple_addW0 a b _ _ n n2 dd dd2 sl sl2 rfl) ⟨ho,ho2,⟨.ref b,H,I,rfl,q⟩⟩
theorem zr4:zhl K mg (fun x y H Q=>rI0 (fun i j=>.int (i+j)) x y H Q\/(∃i j,x=.str i/\y=.str j/\i.length+j.length<=sizeLine/\Q (.str (i++j)) H)\/zvl K x y H Q\/zvk K x y H Q\/zqf K x y H Q) (fun _=>zz):=by
 intro ρ H S x y dx dy d Q hS rx ry e k;replace e:zz dx dy=some d:=e;unfold zz at e;split at e
 · rename_i i j;cases e;rw[rx.refI,ry.refI];exact .inl ⟨i,j,rfl,rfl,k _ H (Ext.refl _ _) hS rfl⟩
 · rename_i i j;split at e
   · rename_i hl;cases e;rw[rx.refS,ry.refS];exact .inr (.inl ⟨i,j,rfl,rfl,hl,k _ H (Ext.refl _ _) hS rfl⟩)
   · cases e
 · rename_i a b;split at e
   · rename_i hl;cases e;obtain⟨p,vs,rfl,t1,r1⟩:=rx.refL;obtain⟨q,us,rfl,t2,r2⟩:=ry.refL;refine .inr (.inr (.inl ⟨p,q,vs,us,rfl,rfl,t1.sq,t2.sq,by rw[<-r1.length,<-r2.length];exact hl,fun z hz=>?_⟩));exact k _ _ (x9 hS _ hz) (hS.new _ hz) (Rep.lst (s:=hS) hz (r1.append r2))
   · cases e
 · rename_i a b;split at e
   · rename_i hl;cases e;obtain⟨p,vs,rfl,t1,r1⟩:=rx.refT;obtain⟨q,us,rfl,t2,r2⟩:=ry.refT;cases a with
     | nil=>
       have:=r1.length;cases vs with
       |nil=>exact .inr (.inr (.inr (.inr ⟨p,q,us,rfl,rfl,t1.sq,t2.sq,k _ H (Ext.refl _ _) hS ry⟩)))
       |cons _ _=>simp at this
     | cons a0 a=>
       refine .inr (.inr (.inr (.inl ⟨p,q,vs,us,rfl,rfl,t1.sq,t2.sq,?_,by rw[<-r1.length,<-r2.length];exact hl,fun z=>?_,fun z w hw=>?_⟩)))
       · intro z;have:=r1.length;subst z;simp at this
       · have:=r2.length;subst z;cases b with
         |nil=>rw[z2y]at k;exact k _ H (Ext.refl _ _) hS rx
         |cons _ _=>simp at this
       · exact k _ _ (x9 hS _ hw) (hS.new _ hw) (Rep.tup (s:=hS) hw (r1.append r2))
   · cases e
 · cases e
theorem qf{a b:Expr}{f g:E}{pos:Pos}(ha:FE X a f)(hb:FE X b g):FE X (.BinOp a .Add b pos) (e2 zz f g) :=
 zeu (op_add.or (op_add_str.or (op_catL.or (op_catT.or zo2)))) zr4 ha hb
theorem zoe{C:Int->Int->Prop}{gV:Int->Int->Int}{g:Int->Int->Option Int}(h:∀i j z,g i j=some z->C i j/\z=gV i j):zhl K mg (rI C fun i j=>.int (gV i j)) (fun _=>opI g):=by
 intro ρ H S x y dx dy d Q hS rx ry e k;replace e:opI g dx dy=some d:=e;unfold opI at e;split at e
 · rename_i i j;obtain⟨z,e1,e⟩:=zbf e;cases e;obtain⟨hc,rfl⟩:=h i j z e1;rw[rx.refI,ry.refI];exact⟨i,j,rfl,rfl,hc,k _ H (Ext.refl _ _) hS rfl⟩
 · cases e
theorem zu2{gV:Int->Int->Int}:zhl K mg (rI0 fun i j=>.int (gV i j)) (fun _=>opI fun i j=>some (gV i j)):=by
 intro ρ H S x y dx dy d Q hS rx ry e k;replace e:opI _ dx dy=some d:=e;unfold opI at e;split at e
 · rename_i i j;cases e;rw[rx.refI,ry.refI];exact⟨i,j,rfl,rfl,k _ H (Ext.refl _ _) hS rfl⟩
 · cases e
theorem zaq{g:Int->Int->Bool}:zhl K mg (rI0 fun i j=>.bl (g i j)) (fun _=>opIB g):=by
 intro ρ H S x y dx dy d Q hS rx ry e k;replace e:opIB g dx dy=some d:=e;unfold opIB at e;split at e
 · rename_i i j;cases e;rw[rx.refI,ry.refI];exact⟨i,j,rfl,rfl,k _ H (Ext.refl _ _) hS rfl⟩
 · cases e
variable {a b:Expr}{f g:E}{pos:Pos}
theorem yj(ha:FE X a f)(hb:FE X b g):FE X (.BinOp a .Sub b pos) (e2 yd f g):=zeu zv9 zu2 ha hb
theorem znw{i:Int}(h:IB i):Builtin.Int.intBits i<=2^20:=by
 unfold IB at h;unfold Builtin.Int.intBits;have:i.natAbs.log2<4096:=by
   by_cases h0:i.natAbs=0
   · rw[h0];decide
   · exact(Nat.log2_lt h0).mpr h
 split<;>omega
theorem zs0:OpR X (binaryOp .Mult) (rI (fun i j=>CMul i j\/(IB i/\IB j)) fun i j=>.int (i*j)) :=
 L2.opI fun i j _ _ _ _ _ hc q=>mul_int q (by
   rcases hc with hc | ⟨h1,h2⟩
   · exact hc.ok
   · exact IntMulOk.of_bits (znw h1) (znw h2))
theorem zck(ha:FE X a f)(hb:FE X b g):FE X (.BinOp a .Mult b pos) (e2 ye f g):=zeu zs0 (zoe fun i j z e=>by
 unfold zyb at e;split at e
 · rename_i h;cases e;refine⟨?_,rfl⟩;rcases h with h | h | h
   · exact .inl (.inl h)
   · exact .inl (.inr h)
   · exact .inr h
 · cases e) ha hb
theorem zds(ha:FE X a f)(hb:FE X b g):FE X (.BinOp a .FloorDiv b pos) (e2 zbr f g):=zeu zs2 (zoe fun i j z e=>by
 unfold z0f at e;split at e
 · rename_i h;cases e;exact⟨h,rfl⟩
 · cases e) ha hb
theorem xj(ha:FE X a f)(hb:FE X b g):FE X (.BinOp a .Mod b pos) (e2 jq f g):=zeu zwb (zoe fun i j z e=>by
 unfold zzm at e;split at e
 · rename_i h;cases e;exact⟨h,rfl⟩
 · cases e) ha hb
theorem zw8(ha:FE X a f)(hb:FE X b g):FE X (.BinOp a .Pow b pos) (e2 zo3 f g):=zeu zwa (zoe fun i j z e=>by
 unfold zx8 at e;split at e
 · rename_i h;cases e;exact⟨h,rfl⟩
 · cases e) ha hb
theorem zxb(ha:FE X a f)(hb:FE X b g)(hm:behindInMarks .Lt b=false:=by exact zal _):FE X (.Compare a [.Lt] [b] pos) (e2 zdb f g):=zjh zs1 zaq ha hb hm
theorem zz9(ha:FE X a f)(hb:FE X b g)(hm:behindInMarks .LtE b=false:=by exact zal _):FE X (.Compare a [.LtE] [b] pos) (e2 zco f g):=zjh zj5 zaq ha hb hm
theorem zpp(ha:FE X a f)(hb:FE X b g)(hm:behindInMarks .Lt b=false:=by exact zal _):FB X (.Compare a [.Lt] [b] pos) (bE (e2 zdb f g)):=zby zs1 zaq ha hb hm
theorem zxe(ha:FE X a f)(hb:FE X b g)(hm:behindInMarks .LtE b=false:=by exact zal _):FB X (.Compare a [.LtE] [b] pos) (bE (e2 zco f g)):=zby zj5 zaq ha hb hm
theorem zfl(ha:FE X a f)(hb:FE X b g)(hm:behindInMarks .Gt b=false:=by exact zal _):FB X (.Compare a [.Gt] [b] pos) (bE (e2 zfa f g)):=zby zzj zaq ha hb hm
theorem zpq(ha:FE X a f)(hb:FE X b g)(hm:behindInMarks .GtE b=false:=by exact zal _):FB X (.Compare a [.GtE] [b] pos) (bE (e2 zl4 f g)):=zby zzk zaq ha hb hm
theorem zjd{ρ H d v}(h:Rep K mg ρ H d v):zmp d=decide (v=.non):=by
 cases d with
 |non=>rw[show v=.non from h];rfl
 |bl b=>rw[show v=.bl b from h];rfl
 |int b=>rw[show v=.int b from h];rfl
 |str b=>rw[show v=.str b from h];rfl
 |fn x=>unfold Rep at h;obtain⟨p,rfl,_⟩:=h;rfl
 |ty b=>rw[show v=.ty b from h];rfl
 |tup x=>obtain⟨p,_,rfl,_⟩:=h.refT;rfl
 |lst x=>obtain⟨p,_,rfl,_⟩:=h.refL;rfl
 |obj x=>unfold Rep at h;obtain⟨p,rfl,_⟩:=h;rfl
 |lam x=>unfold Rep at h;obtain⟨p,rfl,_⟩:=h;rfl
 |clo x y=>unfold Rep at h;obtain⟨p,_,rfl,_⟩:=h;rfl
theorem zwc:OpR X (compareOp .Is) (fun x y H Q=>∃i j,x=.bl i/\y=.bl j/\Q (.bl (i==j)) H):=by intro pins s σ H x y v u Q I rx ry h;obtain⟨i,j,rfl,rfl,q⟩:=h;cases rx;cases ry;exact is_bool ⟨.bl _,H,I,rfl,q⟩
theorem zl2:OpR X (compareOp .IsNot) (fun x y H Q=>∃i j,x=.bl i/\y=.bl j/\Q (.bl (i != j)) H):=by intro pins s σ H x y v u Q I rx ry h;obtain⟨i,j,rfl,rfl,q⟩:=h;cases rx;cases ry;exact isnot_bool ⟨.bl _,H,I,rfl,q⟩
theorem zu0:zhl K mg (fun x y H Q=>(y=.non/\Q (.bl (decide (x=.non))) H)\/(∃i j,x=.bl i/\y=.bl j/\Q (.bl (i==j)) H)) (fun _=>zd6):=by
 intro ρ H S x y dx dy d Q hS rx ry e k;replace e:zd6 dx dy=some d:=e;unfold zd6 at e;split at e
 · cases e;rw[zjd rx]at k;exact .inl ⟨ry,k _ H (Ext.refl _ _) hS rfl⟩
 · rename_i i j _;cases e;exact .inr ⟨_,_,rx,ry,k _ H (Ext.refl _ _) hS rfl⟩
 · cases e
theorem zk6:zhl K mg (fun x y H Q=>(y=.non/\Q (.bl (!decide (x=.non))) H)\/(∃i j,x=.bl i/\y=.bl j/\Q (.bl (i != j)) H)) (fun _=>km):=by
 intro ρ H S x y dx dy d Q hS rx ry e k;replace e:km dx dy=some d:=e;unfold km at e;split at e
 · cases e;rw[zjd rx]at k;exact .inl ⟨ry,k _ H (Ext.refl _ _) hS rfl⟩
 · rename_i i j _;cases e;exact .inr ⟨_,_,rx,ry,k _ H (Ext.refl _ _) hS rfl⟩
 · cases e
theorem zdu(ha:FE X a f)(hb:FE X b g)(hm:behindInMarks .Is b=false:=by exact zal _):FB X (.Compare a [.Is] [b] pos) (bE (e2 zd6 f g)):=zby (op_isN.or zwc) zu0 ha hb hm
theorem zbx(ha:FE X a f)(hb:FE X b g)(hm:behindInMarks .IsNot b=false:=by exact zal _):FB X (.Compare a [.IsNot] [b] pos) (bE (e2 km f g)):=zby (op_notN.or zl2) zk6 ha hb hm
theorem zig{ρ H ds vs i d}(r:RepL K mg ρ H ds vs)(h:atI ds i=some d):∃v,atI vs i=some v/\Rep K mg ρ H d v:=by unfold atI at h ⊢;rw[<-r.length];obtain⟨j,h1,h2⟩:=zy h;rw[h1];exact r.get h2
theorem zuz:zhl K mg (rIx K) qj:=by
 intro ρ H S x y dx dy d Q hS rx ry e k;unfold qj at e;split at e
 · rename_i ds i;obtain⟨p,vs,rfl,t,r⟩:=rx.refL;obtain⟨v,h1,h2⟩:=zig r e;exact .inl ⟨p,vs,i,v,rfl,ry.refI,t.sq,h1,k _ H (Ext.refl _ _) hS h2⟩
 · rename_i ds i;obtain⟨p,vs,rfl,t,r⟩:=rx.refT;obtain⟨v,h1,h2⟩:=zig r e;exact .inr (.inl ⟨p,vs,i,v,rfl,ry.refI,t.sq,h1,k _ H (Ext.refl _ _) hS h2⟩)
 · rename_i z i;split at e
   · rename_i hz;obtain⟨c,h1,e⟩:=zbf e;cases e;exact .inr (.inr ⟨z,i,c,rx.refS,ry.refI,hz,h1,k _ H (Ext.refl _ _) hS rfl⟩)
   · cases e
 · rename_i o i;split at e
   · rename_i ds hd;unfold Rep at rx;obtain⟨p,rfl,hp⟩:=rx;obtain⟨vs,h1,r⟩:=hS.ob o _ p hd hp;obtain⟨v,h3,h2⟩:=zig r e;exact .inl ⟨p,vs,i,v,rfl,ry.refI,SqL.of h1,h3,k _ H (Ext.refl _ _) hS h2⟩
   · cases e
 · cases e
theorem zr(ha:FE X a f)(hb:FE X b g)(hs:zn2 b:=by exact fun _ _=>rfl):FE X (.Subscript a b pos) (e2s qj f g):=jo (zze zwv ha hb hs) fun _ _ _ h=>t2 zuz h
end
def eqL(f:D->D->Option Bool):List D->List D->Option Bool
 |x::xs,y::ys=>(f x y).bind fun c=>(eqL f xs ys).map fun r=>c&&r
 | [],[]=>some true
 |_,_=>some false
def zdr:D->Option V
 | .non=>some .non
 | .bl b=>some (.bl b)
 | .int i=>some (.int i)
 | .str x=>some (.str x)
 |_=>none
def eqF(a b:D):Option Bool:=match zdr a,zdr b with
 |some x,some y=>some (eqV x y)
 |_,_=>none
def zmo:D->Bool
 | .tup _=>true
 | .lst _=>true
 |_=>false
def eqN:Nat->D->D->Option Bool
 |0,a,b=>eqF a b
 | n+1,a,b=>match a,b with
   | .tup xs,.tup ys=>eqL (eqN n) xs ys
   | .lst xs,.lst ys=>if xs.length=ys.length then eqL (eqN n) xs ys else some false
   | .tup _,.lst _=>some false
   | .lst _,.tup _=>some false
   | a,b=>if zmo a=true then (if(zdr b).isSome=true then some false else none)
     else if zmo b=true then (if(zdr a).isSome=true then some false else none)
     else eqF a b
theorem zcz{a b:D}{k:Bool}(h:eqF a b=some k):∃x y,zdr a=some x/\zdr b=some y/\k=eqV x y:=by
 unfold eqF at h;split at h
 · rename_i x y e1 e2;exact⟨x,y,e1,e2,(z2n h).symm⟩
 · cases h
section
variable {X:Cx}{pins:zAO}{σ:L2.St}{H:Hp}{s:Shared}{ρ:List Addr}{mg:zMg}
theorem j5{K}{d:D}{x v:V}(e:zdr d=some x)(r:Rep K mg ρ H d v):v=x/\zbu x=true:=by
 cases d with
 |non=>cases e;exact⟨r,rfl⟩
 |bl b=>cases e;exact⟨r,rfl⟩
 |int i=>cases e;exact⟨r,rfl⟩
 |str i=>cases e;exact⟨r,rfl⟩
 |_=>cases e
theorem znb{f:D->D->Option Bool}:∀{xs ys:List D}{k:Bool},eqL f xs ys=some k->xs.length≠ys.length->k=false
 | [],[],_,_,h=>absurd rfl h
 | [],_::_,_,h,_=>by cases h;rfl
 |_::_,[],_,h,_=>by cases h;rfl
 | x::xs,y::ys,k,h,n=>by obtain⟨c,_,h⟩:=zy h;obtain⟨r,h2,h⟩:=zbf h;have:=znb h2 (fun z=>n (by simp[z]));subst this h;simp
theorem zq0{f:D->D->Option Bool}:∀{xs ys:List D}{k:Bool},eqL f xs ys=some k->∀(j:Nat) (x y:D),xs[j]? = some x->ys[j]? = some y->∃c,f x y=some c
 | x::xs,y::ys,k,h,0,_,_,e1,e2=>by obtain⟨c,h1,h⟩:=zy h;simp at e1 e2;subst e1 e2;exact⟨c,h1⟩
 | x::xs,y::ys,k,h,j+1,_,_,e1,e2=>by obtain⟨c,h1,h⟩:=zy h;obtain⟨r,h2,h⟩:=zbf h;exact zq0 h2 j _ _ (by simpa using e1) (by simpa using e2)
 | [],_,_,_,_,_,_,e1,_=>by simp at e1
 |_::_,[],_,_,_,_,_,_,e2=>by simp at e2
def zko(f:D->D->Option Bool)(xs ys:List D)(j:Nat):Bool:=match xs[j]?,ys[j]? with
 |some x,some y=>(f x y).getD false
 |_,_=>false
theorem zh4{f:D->D->Option Bool}:∀{xs ys:List D}{k:Bool},eqL f xs ys=some k->xs.length=ys.length->k=(List.range xs.length).all (zko f xs ys)
 | [],[],_,h,_=>by cases h;rfl
 | x::xs,y::ys,k,h,e=>by
   obtain⟨c,h1,h⟩:=zy h;obtain⟨r,h2,h⟩:=zbf h;subst h;have ih:=zh4 h2 (by simpa using e);rw[List.length_cons,List.range_succ_eq_map,List.all_cons,List.all_map];have e0:zko f (x::xs) (y::ys) 0=c:=by simp[zko,h1]
   have e1:((zko f (x::xs) (y::ys))∘Nat.succ)=zko f xs ys:=by funext j;simp[zko]
   rw[e0,e1,<-ih]
 | [],_::_,_,_,e=>by simp at e
 |_::_,[],_,_,e=>by simp at e
theorem zpt{f:D->D->Option Bool}{xs ys:List D}{k:Bool}(h:eqL f xs ys=some k):k=((List.range (min xs.length ys.length)).all (zko f xs ys)&&xs.length==ys.length):=by
 by_cases e:xs.length=ys.length
 · rw[zh4 h e,e];simp
 · rw[znb h e];have:(xs.length==ys.length)=false:=by simpa using e
   rw[this];simp
theorem zt0:∀(n:Nat) {d1 d2:D}{v:V}{k:Bool},Inv X pins σ H s->eqN n d1 d2=some k->Rep X.K mg ρ H d1 v->Rep X.K mg ρ H d2 v->k=true:=by
 intro n
 induction n with
 | zero=>
   intro d1 d2 v k I h r1 r2;obtain⟨x,y,e1,e2,rfl⟩:=zcz h;obtain⟨rfl,f1⟩:=j5 e1 r1;obtain⟨rfl,f2⟩:=j5 e2 r2;cases v<;>first | (cases f1;done) | (simp[eqV];done)
 | succ n ih=>
   intro d1 d2 v k I h r1 r2;have lst:∀{xs ys:List D}{vs:List V}{k:Bool},eqL (eqN n) xs ys=some k->RepL X.K mg ρ H xs vs->RepL X.K mg ρ H ys vs->k=true:=by
     intro xs
     induction xs with
     | nil=>
       intro ys vs k h q1 q2;have l1:=q1.length;have l2:=q2.length;cases ys with
       |nil=>cases h;rfl
       |cons _ _=>rw[<-l1]at l2;simp at l2
     | cons x xs ihx=>
       intro ys vs k h q1 q2;cases ys with
       | nil=>
         have l1:=q1.length;have l2:=q2.length;rw[<-l2]at l1;simp at l1
       | cons y ys=>
         obtain⟨c,h1,h⟩:=zy h;obtain⟨r,h2,h⟩:=zbf h;unfold RepL at q1 q2;obtain⟨v1,r1,rfl,a1,b1⟩:=q1;obtain⟨v2,r2,e,a2,b2⟩:=q2;cases e;rw[<-h,ih I h1 a1 a2,ihx h2 b1 b2];rfl
   unfold eqN at h;split at h
   · rename_i xs ys;obtain⟨p,vs,rfl,t1,q1⟩:=r1.refT;obtain⟨p',vs',e,t2,q2⟩:=r2.refT;cases e;have:=I.tuple_inj t1.sq t2.sq;subst this;exact lst h q1 q2
   · rename_i xs ys;obtain⟨p,vs,rfl,t1,q1⟩:=r1.refL;obtain⟨p',vs',e,t2,q2⟩:=r2.refL;cases e;have:=I.list_inj t1.sq t2.sq;subst this;rw[z2v (by rw[q1.length,q2.length])]at h;exact lst h q1 q2
   · rename_i xs ys;obtain⟨p,vs,rfl,t1,q1⟩:=r1.refT;obtain⟨p',vs',e,t2,q2⟩:=r2.refL;cases e;obtain⟨_,_,⟨o,e1,c1,_⟩,_⟩:=I.tuple t1.sq;obtain⟨_,_,⟨o',_,e2,c2,_⟩,_⟩:=I.list t2.sq;rw[e1]at e2;cases e2;rw[c1]at c2;exact absurd (Value.type.inj c2) (by decide)
   · rename_i xs ys;obtain⟨p,vs,rfl,t1,q1⟩:=r1.refL;obtain⟨p',vs',e,t2,q2⟩:=r2.refT;cases e;obtain⟨_,_,⟨o,e1,c1,_⟩,_⟩:=I.tuple t2.sq;obtain⟨_,_,⟨o',_,e2,c2,_⟩,_⟩:=I.list t1.sq;rw[e1]at e2;cases e2;rw[c1]at c2;exact absurd (Value.type.inj c2) (by decide)
   · split at h
     · rename_i hs;split at h
       · rename_i hb;obtain⟨y,ey⟩:=z3r.mp hb;obtain⟨rfl,f2⟩:=j5 ey r2;cases d1 with
         |tup _=>obtain⟨p,_,rfl,_⟩:=r1.refT;cases f2
         |lst _=>obtain⟨p,_,rfl,_⟩:=r1.refL;cases f2
         |_=>cases hs
       · cases h
     · split at h
       · rename_i hs;split at h
         · rename_i hb;obtain⟨y,ey⟩:=z3r.mp hb;obtain⟨rfl,f2⟩:=j5 ey r1;cases d2 with
           |tup _=>obtain⟨p,_,rfl,_⟩:=r2.refT;cases f2
           |lst _=>obtain⟨p,_,rfl,_⟩:=r2.refL;cases f2
           |_=>cases hs
         · cases h
       · obtain⟨x,y,e1,e2,rfl⟩:=zcz h;obtain⟨rfl,f1⟩:=j5 e1 r1;obtain⟨rfl,f2⟩:=j5 e2 r2;cases v<;>first | (cases f1;done) | (simp[eqV];done)
theorem zlq{A:Around}{x y:V}{u w:Value}(ru:RelV x u)(rw':RelV y w)(fx:zbu x=true)(fy:zbu y=true):SeqAt.RcAt A s u w (eqV x y):=by
 cases x with
 | non=>
   cases ru;cases y with
   |non=>cases rw';exact SeqAt.RcAt.none_none
   |bl b=>cases rw';exact SeqAt.RcAt.none_bool b
   |int b=>obtain⟨t,rfl⟩:=rw';exact SeqAt.RcAt.none_int b t
   |str b=>obtain⟨t,rfl⟩:=rw';exact SeqAt.RcAt.none_str b t
   |_=>cases fy
 | bl a=>
   cases ru;cases y with
   |non=>cases rw';exact SeqAt.RcAt.bool_none a
   |bl b=>cases rw';exact SeqAt.RcAt.bool_bool a b
   |int b=>obtain⟨t,rfl⟩:=rw';exact SeqAt.RcAt.bool_int a b t
   |str b=>obtain⟨t,rfl⟩:=rw';exact SeqAt.RcAt.bool_str a b t
   |_=>cases fy
 | int a=>
   obtain⟨t',rfl⟩:=ru;cases y with
   |non=>cases rw';exact SeqAt.RcAt.int_none a t'
   |bl b=>cases rw';exact SeqAt.RcAt.int_bool a t' b
   |int b=>obtain⟨t,rfl⟩:=rw';exact SeqAt.RcAt.int_int a t' b t
   |str b=>obtain⟨t,rfl⟩:=rw';exact SeqAt.RcAt.int_str a t' b t
   |_=>cases fy
 | str a=>
   obtain⟨t',rfl⟩:=ru;cases y with
   |non=>cases rw';exact SeqAt.RcAt.str_none a t'
   |bl b=>cases rw';exact SeqAt.RcAt.str_bool a t' b
   |int b=>obtain⟨t,rfl⟩:=rw';exact SeqAt.RcAt.str_int a t' b t
   |str b=>obtain⟨t,rfl⟩:=rw';exact SeqAt.RcAt.str_str a t' b t
   |_=>cases fy
 |_=>cases fx
theorem zgg{A:Around}{x y:V}{u w:Value}(ru:RelV x u)(rw':RelV y w)(fx:zbu x=true)(fy:zbu y=true):SeqAt.RcNeAt A s u w (!eqV x y):=by
 cases x with
 | non=>
   cases ru;cases y with
   |non=>cases rw';exact SeqAt.RcNeAt.none_none
   |bl b=>cases rw';exact SeqAt.RcNeAt.none_bool b
   |int b=>obtain⟨t,rfl⟩:=rw';exact SeqAt.RcNeAt.none_int b t
   |str b=>obtain⟨t,rfl⟩:=rw';exact SeqAt.RcNeAt.none_str b t
   |_=>cases fy
 | bl a=>
   cases ru;cases y with
   |non=>cases rw';exact SeqAt.RcNeAt.bool_none a
   |bl b=>cases rw';exact SeqAt.RcNeAt.bool_bool a b
   |int b=>obtain⟨t,rfl⟩:=rw';exact SeqAt.RcNeAt.bool_int a b t
   |str b=>obtain⟨t,rfl⟩:=rw';exact SeqAt.RcNeAt.bool_str a b t
   |_=>cases fy
 | int a=>
   obtain⟨t',rfl⟩:=ru;cases y with
   |non=>cases rw';exact SeqAt.RcNeAt.int_none a t'
   |bl b=>cases rw';exact SeqAt.RcNeAt.int_bool a t' b
   |int b=>obtain⟨t,rfl⟩:=rw';exact SeqAt.RcNeAt.int_int a t' b t
   |str b=>obtain⟨t,rfl⟩:=rw';exact SeqAt.RcNeAt.int_str a t' b t
   |_=>cases fy
 | str a=>
   obtain⟨t',rfl⟩:=ru;cases y with
   |non=>cases rw';exact SeqAt.RcNeAt.str_none a t'
   |bl b=>cases rw';exact SeqAt.RcNeAt.str_bool a t' b
   |int b=>obtain⟨t,rfl⟩:=rw';exact SeqAt.RcNeAt.str_int a t' b t
   |str b=>obtain⟨t,rfl⟩:=rw';exact SeqAt.RcNeAt.str_str a t' b t
   |_=>cases fy
 |_=>cases fx
theorem zjc{A:Around}{n:Nat}{xs ys:List D}{vs us:List V}{its its2:List Value}(hq:∀{d1 d2:D}{v w:V}{a b:Value}{k:Bool},eqN n d1 d2=some k->Rep X.K mg ρ H d1 v->Rep X.K mg ρ H d2 w->RelV v a->RelV w b->SeqAt.EqAt A s a b k){k:Bool}(h:eqL (eqN n) xs ys=some k)
   (r1:RepL X.K mg ρ H xs vs) (r2:RepL X.K mg ρ H ys us) (q1:Vals vs its) (q2:Vals us its2) :
   ∀j (h1:j<its.toArray.size) (h2:j<its2.toArray.size),SeqAt.EqAt A s its.toArray[j] its2.toArray[j] (zko (eqN n) xs ys j):=by
 intro j h1 h2;have l1:=r1.length;have l2:=r2.length;have l3:=q1.length;have l4:=q2.length;rw[z17]at h1 h2;have e1:xs[j]? = some xs[j]:=z19 (by omega);have e2:ys[j]? = some ys[j]:=z19 (by omega);obtain⟨v,ev,rv⟩:=r1.get e1;obtain⟨w,ew,rw'⟩:=r2.get e2;obtain⟨a,ea,ra⟩:=q1.get ev;obtain⟨b,eb,rb⟩:=q2.get ew;obtain⟨c,hc⟩:=zq0 h j _ _ e1 e2;have z1:its.toArray[j]=a:=by rw[z19 h1]at ea;simpa using ea
 have z2:its2.toArray[j]=b:=by rw[z19 h2]at eb;simpa using eb
 have z3:zko (eqN n) xs ys j=c:=by simp[zko,e1,e2,hc]
 rw[z1,z2,z3];exact hq hc rv rw' ra rb
theorem zxg:∀(n:Nat) {A:Around}{d1 d2:D}{v w:V}{a b:Value}{k:Bool},Inv X pins σ H s->A.units+n<cLine->eqN n d1 d2=some k->Rep X.K mg ρ H d1 v->Rep X.K mg ρ H d2 w->RelV v a->RelV w b ->
   SeqAt.RcAt A s a b k/\SeqAt.RcNeAt A s a b (!k)/\SeqAt.EqAt A s a b k:=by
 intro n
 induction n with
 | zero=>
   intro A d1 d2 v w a b k I hu h r1 r2 ra rb;obtain⟨x,y,e1,e2,rfl⟩:=zcz h;obtain⟨rfl,f1⟩:=j5 e1 r1;obtain⟨rfl,f2⟩:=j5 e2 r2;exact⟨zlq ra rb f1 f2,zgg ra rb f1 f2,znc ra rb f1 f2⟩
 | succ n ih=>
   intro A d1 d2 v w a b k I hu h r1 r2 ra rb;have hs:∀{u:V},Rep X.K mg ρ H d1 u->Rep X.K mg ρ H d2 u->k=true:=fun a b=>zt0 (n+1) I h a b;have hin:A.in1.units+n<cLine:=by show A.units+1+n<cLine;omega
   have hu0:A.units<cLine:=by omega
   have same:∀{p q:Addr},v=.ref p->w=.ref q->SeqAt.RcAt A s (.ref p) (.ref q) k->SeqAt.EqAt A s a b k:=by
     intro p q e1 e2 rc;subst e1 e2;cases ra;cases rb;by_cases hpq:p=q
     · subst hpq;rw[hs r1 r2];exact SeqAt.EqAt.same _
     · exact SeqAt.EqAt.of_refs hpq rc
   unfold eqN at h;split at h
   · rename_i xs ys;obtain⟨p,vs,rfl,t1,q1⟩:=r1.refT;obtain⟨p',us,rfl,t2,q2⟩:=r2.refT;cases ra;cases rb;obtain⟨its,z1,pt1,_⟩:=I.tuple t1.sq;obtain⟨its2,z2,pt2,_⟩:=I.tuple t2.sq;have hit:=zjc (A:=A.in1) (s:=s) (fun e a1 a2 a3 a4=>(ih I hin e a1 a2 a3 a4).2.2) h q1 q2 z1 z2;have l1:=q1.length;have l2:=q2.length;have l3:=z1.length;have l4:=z2.length;have ek:k=((List.range (min its.toArray.size its2.toArray.size)).all (zko (eqN n) xs ys)&&its.toArray.size==its2.toArray.size):=by rw[z17,z17,<-l3,<-l4,<-l1,<-l2];exact zpt h
     have rc:=SeqAt.RcAt.tuples (A:=A) (s:=s) pt1 pt2 hu0 hit;have rn:=SeqAt.RcNeAt.tuples (A:=A) (s:=s) pt1 pt2 hu0 hit;rw[<-ek]at rc;refine⟨rc,?_,same rfl rfl rc⟩;rw[ek];exact rn
   · rename_i xs ys;obtain⟨p,vs,rfl,t1,q1⟩:=r1.refL;obtain⟨p',us,rfl,t2,q2⟩:=r2.refL;cases ra;cases rb;obtain⟨its,z1,pt1,_⟩:=I.list t1.sq;obtain⟨its2,z2,pt2,_⟩:=I.list t2.sq;have l1:=q1.length;have l2:=q2.length;have l3:=z1.length;have l4:=z2.length;split at h
     · rename_i hl;have hit:=zjc (A:=A.in1) (s:=s) (fun e a1 a2 a3 a4=>(ih I hin e a1 a2 a3 a4).2.2) h q1 q2 z1 z2;have hsz:its.toArray.size=its2.toArray.size:=by rw[z17,z17];omega
       have ek:k=(List.range its.toArray.size).all (zko (eqN n) xs ys):=by rw[z17,<-l3,<-l1];exact zh4 h hl
       have rc:=SeqAt.RcAt.lists (A:=A) (s:=s) pt1.isList pt2.isList hsz hu0 hit;have rn:=SeqAt.RcNeAt.lists (A:=A) (s:=s) pt1.isList pt2.isList hsz hu0 hit;rw[<-ek]at rc;refine⟨rc,?_,same rfl rfl rc⟩;rw[ek];exact rn
     · rename_i hl;cases h;have hsz:(its.toArray.size != its2.toArray.size)=true:=by rw[z17,z17];simp;omega
       have rc:=SeqAt.RcAt.lists_lengths (A:=A) (s:=s) pt1.isList pt2.isList hsz hu0;have rn:=SeqAt.RcNeAt.lists_lengths (A:=A) (s:=s) pt1.isList pt2.isList hsz hu0;exact⟨rc,rn,same rfl rfl rc⟩
   · rename_i xs ys;cases h;obtain⟨p,vs,rfl,t1,q1⟩:=r1.refT;obtain⟨p',us,rfl,t2,q2⟩:=r2.refL;cases ra;cases rb;obtain⟨its,z1,pt1,_⟩:=I.tuple t1.sq;obtain⟨its2,z2,pt2,_⟩:=I.list t2.sq;exact⟨SeqAt.RcAt.tuple_list pt1 pt2.isList hu0,SeqAt.RcNeAt.tuple_list pt1 pt2.isList hu0,SeqAt.EqAt.tuple_list pt1 pt2.isList hu0⟩
   · rename_i xs ys;cases h;obtain⟨p,vs,rfl,t1,q1⟩:=r1.refL;obtain⟨p',us,rfl,t2,q2⟩:=r2.refT;cases ra;cases rb;obtain⟨its,z1,pt1,_⟩:=I.list t1.sq;obtain⟨its2,z2,pt2,_⟩:=I.tuple t2.sq;exact⟨SeqAt.RcAt.list_tuple pt1.isList pt2 hu0,SeqAt.RcNeAt.list_tuple pt1.isList pt2 hu0,SeqAt.EqAt.list_tuple pt1.isList pt2 hu0⟩
   · split at h
     · rename_i hsq;split at h
       · rename_i hb;cases h;obtain⟨y,ey⟩:=z3r.mp hb;obtain⟨rfl,f2⟩:=j5 ey r2;cases d1 with
         | tup _=>
           obtain⟨p,vs,rfl,t1,q1⟩:=r1.refT;cases ra;obtain⟨its,z1,pt,_⟩:=I.tuple t1.sq;cases w with
           |non=>cases rb;exact⟨SeqAt.RcAt.tuple_none pt hu0,SeqAt.RcNeAt.tuple_none pt hu0,SeqAt.EqAt.tuple_none pt hu0⟩
           |bl c=>cases rb;exact⟨SeqAt.RcAt.tuple_bool c pt hu0,SeqAt.RcNeAt.tuple_bool c pt hu0,SeqAt.EqAt.tuple_bool c pt hu0⟩
           |int c=>obtain⟨t,rfl⟩:=rb;exact⟨SeqAt.RcAt.tuple_int c t pt hu0,SeqAt.RcNeAt.tuple_int c t pt hu0,SeqAt.EqAt.tuple_int c t pt hu0⟩
           |str c=>obtain⟨t,rfl⟩:=rb;exact⟨SeqAt.RcAt.tuple_str c t pt hu0,SeqAt.RcNeAt.tuple_str c t pt hu0,SeqAt.EqAt.tuple_str c t pt hu0⟩
           |_=>cases f2
         | lst _=>
           obtain⟨p,vs,rfl,t1,q1⟩:=r1.refL;cases ra;obtain⟨its,z1,pl,_⟩:=I.list t1.sq;have pt:=pl.isList;cases w with
           |non=>cases rb;exact⟨SeqAt.RcAt.list_none pt hu0,SeqAt.RcNeAt.list_none pt hu0,SeqAt.EqAt.list_none pt hu0⟩
           |bl c=>cases rb;exact⟨SeqAt.RcAt.list_bool c pt hu0,SeqAt.RcNeAt.list_bool c pt hu0,SeqAt.EqAt.list_bool c pt hu0⟩
           |int c=>obtain⟨t,rfl⟩:=rb;exact⟨SeqAt.RcAt.list_int c t pt hu0,SeqAt.RcNeAt.list_int c t pt hu0,SeqAt.EqAt.list_int c t pt hu0⟩
           |str c=>obtain⟨t,rfl⟩:=rb;exact⟨SeqAt.RcAt.list_str c t pt hu0,SeqAt.RcNeAt.list_str c t pt hu0,SeqAt.EqAt.list_str c t pt hu0⟩
           |_=>cases f2
         |_=>cases hsq
       · cases h
     · split at h
       · rename_i hsq;split at h
         · rename_i hb;cases h;obtain⟨y,ey⟩:=z3r.mp hb;obtain⟨rfl,f2⟩:=j5 ey r1;cases d2 with
           | tup _=>
             obtain⟨p,vs,rfl,t1,q1⟩:=r2.refT;cases rb;obtain⟨its,z1,pt,_⟩:=I.tuple t1.sq;cases v with
             |non=>cases ra;exact⟨SeqAt.RcAt.none_tuple pt hu0,SeqAt.RcNeAt.none_tuple pt hu0,SeqAt.EqAt.none_tuple pt hu0⟩
             |bl c=>cases ra;exact⟨SeqAt.RcAt.bool_tuple c pt hu0,SeqAt.RcNeAt.bool_tuple c pt hu0,SeqAt.EqAt.bool_tuple c pt hu0⟩
             |int c=>obtain⟨t,rfl⟩:=ra;exact⟨SeqAt.RcAt.int_tuple c t pt hu0,SeqAt.RcNeAt.int_tuple c t pt hu0,SeqAt.EqAt.int_tuple c t pt hu0⟩
             |str c=>obtain⟨t,rfl⟩:=ra;exact⟨SeqAt.RcAt.str_tuple c t pt hu0,SeqAt.RcNeAt.str_tuple c t pt hu0,SeqAt.EqAt.str_tuple c t pt hu0⟩
             |_=>cases f2
           | lst _=>
             obtain⟨p,vs,rfl,t1,q1⟩:=r2.refL;cases rb;obtain⟨its,z1,pl,_⟩:=I.list t1.sq;have pt:=pl.isList;cases v with
             |non=>cases ra;exact⟨SeqAt.RcAt.none_list pt hu0,SeqAt.RcNeAt.none_list pt hu0,SeqAt.EqAt.none_list pt hu0⟩
             |bl c=>cases ra;exact⟨SeqAt.RcAt.bool_list c pt hu0,SeqAt.RcNeAt.bool_list c pt hu0,SeqAt.EqAt.bool_list c pt hu0⟩
             |int c=>obtain⟨t,rfl⟩:=ra;exact⟨SeqAt.RcAt.int_list c t pt hu0,SeqAt.RcNeAt.int_list c t pt hu0,SeqAt.EqAt.int_list c t pt hu0⟩
             |str c=>obtain⟨t,rfl⟩:=ra;exact⟨SeqAt.RcAt.str_list c t pt hu0,SeqAt.RcNeAt.str_list c t pt hu0,SeqAt.EqAt.str_list c t pt hu0⟩
             |_=>cases f2
           |_=>cases hsq
         · cases h
       · obtain⟨x,y,e1,e2,rfl⟩:=zcz h;obtain⟨rfl,f1⟩:=j5 e1 r1;obtain⟨rfl,f2⟩:=j5 e2 r2;exact⟨zlq ra rb f1 f2,zgg ra rb f1 f2,znc ra rb f1 f2⟩
end
def zak(a b:D):Option D:=(eqN 150 a b).map D.bl
def ze9(a b:D):Option D:=(eqN 150 a b).map fun k=>D.bl !k
section
variable {X:Cx}{a b:Expr}{f g:E}{pos:Pos}
def zx7(K:zFr)(mg:zMg)(neg:Bool):R2:=fun x y H Q=>∃(ρ:List Addr) (d1 d2:D) (k:Bool),Rep K mg ρ H d1 x/\Rep K mg ρ H d2 y/\eqN 150 d1 d2=some k/\Q (.bl (if neg then !k else k)) H
theorem zqm(hu:X.A.units+150<cLine):OpR X (compareOp .Eq) (zx7 X.K X.mg false):=by intro pins s σ H x y v u Q I rx ry h;obtain⟨ρ,d1,d2,k,h1,h2,h3,q⟩:=h;exact(zxg 150 I hu h3 h1 h2 rx ry).1 _ _ _ _ ⟨.bl k,H,I,rfl,q⟩
theorem zql(hu:X.A.units+150<cLine):OpR X (compareOp .NotEq) (zx7 X.K X.mg true):=by intro pins s σ H x y v u Q I rx ry h;obtain⟨ρ,d1,d2,k,h1,h2,h3,q⟩:=h;exact(zxg 150 I hu h3 h1 h2 rx ry).2.1 _ _ _ _ ⟨.bl (!k),H,I,rfl,q⟩
theorem zk7{K mg}:zhl K mg (zx7 K mg false) (fun _=>zak):=by intro ρ H S x y dx dy d Q hS rx ry e k;obtain⟨c,e1,e⟩:=zbf e;subst e;exact⟨ρ,dx,dy,c,rx,ry,e1,k _ H (Ext.refl _ _) hS rfl⟩
theorem zk5{K mg}:zhl K mg (zx7 K mg true) (fun _=>ze9):=by intro ρ H S x y dx dy d Q hS rx ry e k;obtain⟨c,e1,e⟩:=zbf e;subst e;exact⟨ρ,dx,dy,c,rx,ry,e1,k _ H (Ext.refl _ _) hS rfl⟩
theorem ztv{k:Nat}(hr:Room k X.A)(ha:FE X a f)(hb:FE X b g)(hm:behindInMarks .Eq b=false:=by exact zal _):FE X (.Compare a [.Eq] [b] pos) (e2 zak f g):=zjh (zqm (by have:=hr.un;omega)) zk7 ha hb hm
theorem zz8{k:Nat}(hr:Room k X.A)(ha:FE X a f)(hb:FE X b g)(hm:behindInMarks .NotEq b=false:=by exact zal _):FE X (.Compare a [.NotEq] [b] pos) (e2 ze9 f g):=zjh (zql (by have:=hr.un;omega)) zk5 ha hb hm
theorem zcr{k:Nat}(hr:Room k X.A)(ha:FE X a f)(hb:FE X b g)(hm:behindInMarks .Eq b=false:=by exact zal _):FB X (.Compare a [.Eq] [b] pos) (bE (e2 zak f g)):=zby (zqm (by have:=hr.un;omega)) zk7 ha hb hm
theorem zkg{k:Nat}(hr:Room k X.A)(ha:FE X a f)(hb:FE X b g)(hm:behindInMarks .NotEq b=false:=by exact zal _):FB X (.Compare a [.NotEq] [b] pos) (bE (e2 ze9 f g)):=zby (zql (by have:=hr.un;omega)) zk5 ha hb hm
end
def zas(S:Sto):List D->Option D
 | [.lst ds]=>some (.int ds.length)
 | [.tup ds]=>some (.int ds.length)
 | [.str z]=>if z.length<=sizeLine then some (.int z.length)else none
 | [.obj a]=>(match S[a]? with
   |some (.lst ds)=>some (.int ds.length)
   |_=>none)
 |_=>none
def zx0(_:Sto):List D->Option D
 | [.int i]=>some (.int (if i<0 then -i else i))
 |_=>none
def zwk(_:Sto):List D->Option D
 | [.int i,.int j]=>some (.int (if j>i then j else i))
 |_=>none
def zyc(_:Sto):List D->Option D
 | [.int i,.int j]=>some (.int (if j<i then j else i))
 |_=>none
inductive Ty where
 |non | bl | int | str | tup | lst
 deriving DecidableEq
def Ty.name:Ty->String
 | .non=>"NoneType" | .bl=>"bool" | .int=>"int" | .str=>"str" | .tup=>"tuple" | .lst=>"list"
def tyD(S:Sto):D->Option Ty
 | .non=>some .non
 | .bl _=>some .bl
 | .int _=>some .int
 | .str _=>some .str
 | .tup _=>some .tup
 | .lst _=>some .lst
 | .obj a=>(match S[a]? with
   |some (.lst _)=>some .lst
   |_=>none)
 |_=>none
def isT(t c:Ty):Bool:=decide (t=c)||(decide (t=.bl)&&decide (c=.int))
def tyOf?:String->Option Ty
 | "bool"=>some .bl | "int"=>some .int | "str"=>some .str | "tuple"=>some .tup | "list"=>some .lst | _=>none
def ztf(S:Sto):List D->Option D
 | [d,.ty n]=>(tyOf? n).bind fun c=>(tyD S d).map fun t=>.bl (isT t c)
 |_=>none
section
variable {X:Cx}{K:zFr}{mg:zMg}
theorem one{ρ H d xs}(r:RepL K mg ρ H [d] xs):∃v,xs=[v]/\Rep K mg ρ H d v:=by unfold RepL at r;obtain⟨v,t,rfl,h1,h2⟩:=r;unfold RepL at h2;subst h2;exact⟨v,rfl,h1⟩
theorem two{ρ H d e xs}(r:RepL K mg ρ H [d,e] xs):∃v w,xs=[v,w]/\Rep K mg ρ H d v/\Rep K mg ρ H e w:=by unfold RepL at r;obtain⟨v,t,rfl,h1,h2⟩:=r;obtain⟨w,rfl,h3⟩:=one h2;exact⟨v,w,rfl,h1,h3⟩
theorem zrz:zn0 K mg (fun xs H Q=>(∃p ys,xs=[.ref p]/\(SqL K H p ys\/SqT K H p ys)/\Q (.int ys.length) H)\/(∃z,xs=[.str z]/\z.length<=sizeLine/\Q (.int z.length) H)) zas:=by
 intro ρ H S xs ds d Q hS r e k;unfold zas at e;split at e
 · cases e;replace r:=one r;obtain⟨v,rfl,r⟩:=r;obtain⟨p,vs,rfl,t,r⟩:=r.refL;exact .inl ⟨p,vs,rfl,.inl t.sq,by rw[<-r.length];exact k _ H (Ext.refl _ _) hS rfl⟩
 · cases e;replace r:=one r;obtain⟨v,rfl,r⟩:=r;obtain⟨p,vs,rfl,t,r⟩:=r.refT;exact .inl ⟨p,vs,rfl,.inr t.sq,by rw[<-r.length];exact k _ H (Ext.refl _ _) hS rfl⟩
 · split at e
   · rename_i hz;cases e;replace r:=one r;obtain⟨v,rfl,r⟩:=r;rw[r.refS];exact .inr ⟨_,rfl,hz,k _ H (Ext.refl _ _) hS rfl⟩
   · cases e
 · split at e
   · rename_i ds hd;cases e;replace r:=one r;obtain⟨v,rfl,r⟩:=r;unfold Rep at r;obtain⟨p,rfl,hp⟩:=r;obtain⟨vs,h1,r⟩:=hS.ob _ _ p hd hp;exact .inl ⟨p,vs,rfl,.inl (SqL.of h1),by rw[<-r.length];exact k _ H (Ext.refl _ _) hS rfl⟩
   · cases e
 · cases e
variable {e:Expr}{es:List Expr}{p pos:Pos}{g:As}
theorem j7(hm:X.mg "len"=none)(ha:FA X [e] g)(hg:Gl X "len":=by rfl)(he:starEach [e] X.env=(false,eval e X.env)::starEach [] X.env:=by exact zx rfl)(hpl:(backTo pos (starEach [] X.env)).any (·.1)=false:=by exact qt rfl):FE X (.Call (.Name "len" p) [e] [] pos) (eA zas g) :=
 zdt (call_len_seq.or zg1) zrz hm PySem.boot_len ha hg (by decide) (by decide) he hpl
theorem zr5:zn0 K mg (fun xs H Q=>∃i,xs=[.int i]/\Q (.int (if i<0 then -i else i)) H) zx0:=by
 intro ρ H S xs ds d Q hS r e k;unfold zx0 at e;split at e
 · cases e;replace r:=one r;obtain⟨v,rfl,r⟩:=r;rw[r.refI];exact⟨_,rfl,k _ H (Ext.refl _ _) hS rfl⟩
 · cases e
theorem zxd(hm:X.mg "abs"=none)(ha:FA X [e] g)(hg:Gl X "abs":=by rfl)(he:starEach [e] X.env=(false,eval e X.env)::starEach [] X.env:=by exact zx rfl)(hpl:(backTo pos (starEach [] X.env)).any (·.1)=false:=by exact qt rfl):FE X (.Call (.Name "abs" p) [e] [] pos) (eA zx0 g) :=
 zdt zpy zr5 hm (by with_unfolding_all rfl) ha hg (by decide) (by decide) he hpl
theorem zry:zn0 K mg (fun xs H Q=>∃i j,xs=[.int i,.int j]/\Q (.int (if j>i then j else i)) H) zwk:=by
 intro ρ H S xs ds d Q hS r e k;unfold zwk at e;split at e
 · cases e;replace r:=two r;obtain⟨v,w,rfl,r1,r2⟩:=r;rw[r1.refI,r2.refI];exact⟨_,_,rfl,k _ H (Ext.refl _ _) hS rfl⟩
 · cases e
theorem zrx:zn0 K mg (fun xs H Q=>∃i j,xs=[.int i,.int j]/\Q (.int (if j<i then j else i)) H) zyc:=by
 intro ρ H S xs ds d Q hS r e k;unfold zyc at e;split at e
 · cases e;replace r:=two r;obtain⟨v,w,rfl,r1,r2⟩:=r;rw[r1.refI,r2.refI];exact⟨_,_,rfl,k _ H (Ext.refl _ _) hS rfl⟩
 · cases e
theorem zxa(hm:X.mg "max"=none)(ha:FA X (e::es) g)(hc:X.calm=true:=by rfl)(hg:Gl X "max":=by rfl)(he:starEach (e::es) X.env=(false,eval e X.env)::starEach es X.env:=by exact zx rfl)(hpl:(backTo pos (starEach es X.env)).any (·.1)=false:=by exact qt rfl):FE X (.Call (.Name "max" p) (e::es) [] pos) (eA zwk g) :=
 zdt (znp hc) zry hm (by with_unfolding_all rfl) ha hg (by decide) (by decide) he hpl
theorem zw9(hm:X.mg "min"=none)(ha:FA X (e::es) g)(hc:X.calm=true:=by rfl)(hg:Gl X "min":=by rfl)(he:starEach (e::es) X.env=(false,eval e X.env)::starEach es X.env:=by exact zx rfl)(hpl:(backTo pos (starEach es X.env)).any (·.1)=false:=by exact qt rfl):FE X (.Call (.Name "min" p) (e::es) [] pos) (eA zyc g) :=
 zdt (zno hc) zrx hm (by with_unfolding_all rfl) ha hg (by decide) (by decide) he hpl
theorem zji{x:Str}(n:String)(hm:X.mg x=none)(hv:bootBuiltins x=some (.type n))(hg:Gl X x:=by rfl)(hn:x≠"__name__":=by decide)(hd:(x==("__debug__":Str))=false:=by decide):FE X (.Name x pos) (eK (.ty n)) :=
 zae (zsz (v:=.ty n) hg hm hv rfl hn hd) fun _ _=>rfl
theorem zmk:∀(t c:Ty),c≠.non->PySem.W.kitOne K (.type t.name) (.type c.name)=some (isT t c):=by intro t c hc;cases t<;>cases c<;>first | exact absurd rfl hc | rfl | (with_unfolding_all rfl)
theorem zks{n:String}{c:Ty}(h:tyOf? n=some c):n=c.name/\c≠.non:=by unfold tyOf? at h;split at h<;>first | (cases h;exact⟨rfl,by decide⟩) | cases h
def z0t(K:zFr):List V->Hp->VK->Prop:=fun xs H Q=>∃(x:V) (t c:Ty),xs=[x,.ty c.name]/\c≠.non /\
 (TyOf K H x (.type t.name)\/(t=.tup/\∃p ys,x=.ref p/\SqT K H p ys)\/(t=.lst/\∃p ys,x=.ref p/\SqL K H p ys))/\Q (.bl (isT t c)) H
theorem zpv:CallR X (.builtin "isinstance") (z0t X.K):=by
 intro pins s σ H xs us Q I r h;obtain⟨x,t,c,rfl,hc,ht,q⟩:=h;obtain⟨u1,u2,rfl,r1,r2⟩:∃u1 u2,us=[u1,u2]/\RelV x u1/\RelV (.ty c.name) u2:=by
   cases r with
   | cons p q=>
     cases q with
     |cons p' q'=>cases q';exact⟨_,_,rfl,p,p'⟩
 cases r2;rcases ht with ht | ⟨rfl,p,ys,rfl,hp⟩ | ⟨rfl,p,ys,rfl,hp⟩
 · exact zmn I r1 ht (zmk t c hc) fun tk=>⟨.bl _,H,I.tok tk,rfl,q⟩
 · cases r1;obtain⟨its,_,⟨o,h1,h2,_⟩,_⟩:=I.tuple hp;exact z22 PySem.W.kitx_tuple I.kIn ⟨o,h1,h2⟩ (zmk .tup c hc) (fun z=>nomatch z) fun tk=>⟨.bl _,H,I.tok tk,rfl,q⟩
 · cases r1;obtain⟨its,_,⟨o,n,h1,h2,_,_⟩,_⟩:=I.list hp;exact z22 z5k I.kIn ⟨o,h1,h2⟩ (zmk .lst c hc) (fun z=>nomatch z) fun tk=>⟨.bl _,H,I.tok tk,rfl,q⟩
theorem zr0:zn0 K mg (z0t K) ztf:=by
 intro ρ H S xs ds d Q hS r e k;unfold ztf at e;split at e
 · rename_i d' n;obtain⟨c,hc,e⟩:=zy e;obtain⟨t,ht,e⟩:=zbf e;subst e;obtain⟨rfl,hn⟩:=zks hc;replace r:=two r;obtain⟨v,w,rfl,r1,r2⟩:=r;have r2:w=.ty _:=r2;subst r2;refine⟨v,t,c,rfl,hn,?_,k _ H (Ext.refl _ _) hS rfl⟩;unfold tyD at ht;split at ht
   · cases ht;rw[show v=.non from r1];exact .inl .non
   · cases ht;rw[show v=.bl _ from r1];exact .inl (.bl _)
   · cases ht;rw[show v=.int _ from r1];exact .inl (.int _)
   · cases ht;rw[show v=.str _ from r1];exact .inl (.str _)
   · cases ht;obtain⟨p,vs,rfl,tt,_⟩:=r1.refT;exact .inr (.inl ⟨rfl,p,vs,rfl,tt.sq⟩)
   · cases ht;obtain⟨p,vs,rfl,tt,_⟩:=r1.refL;exact .inr (.inr ⟨rfl,p,vs,rfl,tt.sq⟩)
   · split at ht
     · rename_i ds hd;cases ht;unfold Rep at r1;obtain⟨p,rfl,hp⟩:=r1;obtain⟨vs,h1,_⟩:=hS.ob _ _ p hd hp;exact .inr (.inr ⟨rfl,p,vs,rfl,SqL.of h1⟩)
     · cases ht
   · cases ht
 · cases e
theorem zqx(hm:X.mg "isinstance"=none)(ha:FA X (e::es) g)(hg:Gl X "isinstance":=by rfl)(he:starEach (e::es) X.env=(false,eval e X.env)::starEach es X.env:=by exact zx rfl)(hpl:(backTo pos (starEach es X.env)).any (·.1)=false:=by exact qt rfl):FE X (.Call (.Name "isinstance" p) (e::es) [] pos) (eA ztf g) :=
 zdt zpv zr0 hm (by with_unfolding_all rfl) ha hg (by decide) (by decide) he hpl
def zxn(xs:List D)(lo hi:Option Int):List D:=(xs.drop (HT.sIx xs.length 0 lo)).take (HT.sIx xs.length xs.length hi-HT.sIx xs.length 0 lo)
def zwd:D->Option Int->Option Int->Option D
 | .lst ds,lo,hi=>some (.lst (zxn ds lo hi))
 | .tup ds,lo,hi=>if HT.sIx ds.length 0 lo=0/\HT.sIx ds.length ds.length hi=ds.length then none else some (.tup (zxn ds lo hi))
 |_,_,_=>none
abbrev Pt:=Ev->Sto->Option (Option Int×Sto)
def pN:Pt:=fun _ S=>some (none,S)
def pE(f:E):Pt:=fun ev S=>(f ev S).bind fun p=>match p.1 with
 | .int i=>some (some i,p.2)
 |_=>none
def eSl(f:E)(a b:Pt):E:=fun ev S=>(f ev S).bind fun p=>(a ev p.2).bind fun q=>(b ev q.2).bind fun r=>(zwd p.1 q.1 r.1).map fun d=>(d,r.2)
def tPt(K:zFr)(mg:zMg)(f:Pt):TO:=fun σ H Q=>∃ρ ev S o S',EnvR K mg ρ H ev σ/\StOk K mg ρ H S/\f ev S=some (o,S')/\∀ρ' H',Ext ρ H ρ' H'->StOk K mg ρ' H' S'->Q o H'
def FPt(X:Cx)(e:Option Expr)(f:Pt):Prop:=PO X e (tPt X.K X.mg f)
theorem zlx{e:Option Expr}{t t':TO}(h:PO X e t)(m:∀σ H Q,t' σ H Q->t σ H Q):PO X e t':=fun pins s σ H Q I q=>h pins s σ H Q I (m _ _ _ q)
theorem yo:FPt X none pN:=zlx zss fun σ H Q h=>by obtain⟨ρ,ev,S,o,S',hE,hS,hf,k⟩:=h;cases hf;exact k ρ H (Ext.refl _ _) hS
theorem ko{f:E}(h:FE X e f):FPt X (some e) (pE f):=zlx (zsr h) fun σ H Q h=>by
 obtain⟨ρ,ev,S,o,S',hE,hS,hf,k⟩:=h;obtain⟨⟨x,S1⟩,q1,hf⟩:=zy hf;cases x with
 | int i=>
   cases hf;exact⟨ρ,ev,S,_,_,hE,hS,q1,fun v ρ1 H1 E1 hS1 r1=>⟨i,r1,k ρ1 H1 E1 hS1⟩⟩
 |_=>cases hf
theorem znm{ρ H ds vs}(r:RepL K mg ρ H ds vs)(lo hi:Option Int):RepL K mg ρ H (zxn ds lo hi) (zq5 vs lo hi):=by unfold zxn zq5;rw[r.length];exact(r.drop _).take _
theorem x6{a:Expr}{lo hi:Option Expr}{f:E}{u w:Pt}{p2:Pos}(ha:FE X a f)(hl:FPt X lo u)(hh:FPt X hi w):FE X (.Subscript a (.Slice lo hi none p2) pos) (eSl f u w) :=
 jo (zox (sl_list.or zu3) ha hl hh) fun σ H Q h=>by
   obtain⟨ρ,ev,S,d,S',hE,hS,hf,k⟩:=h;obtain⟨⟨x,S1⟩,q1,hf⟩:=zy hf;obtain⟨⟨lo,S2⟩,q2,hf⟩:=zy hf;obtain⟨⟨hi,S3⟩,q3,hf⟩:=zy hf;obtain⟨z,q4,hf⟩:=zbf hf;cases hf;refine⟨ρ,ev,S,x,S1,hE,hS,q1,fun v ρ1 H1 E1 hS1 r1=>⟨ρ1,ev,S1,lo,S2,hE.mono E1,hS1,q2,fun ρ2 H2 E2 hS2=>⟨ρ2,ev,S2,hi,_,(hE.mono E1).mono E2,hS2,q3,fun ρ3 H3 E3 hS3=>?_⟩⟩⟩;have r3:=(r1.mono E2).mono E3;have E:=(E1.trans E2).trans E3;cases x with
   | lst ds=>
     cases q4;obtain⟨p,vs,rfl,t,r⟩:=r3.refL;exact .inl ⟨p,vs,rfl,t.sq,fun b hb=>k _ _ _ (E.trans (x9 hS3 _ hb)) (hS3.new _ hb) (Rep.lst (s:=hS3) hb (znm r lo hi))⟩
   | tup ds=>
     replace q4:(if HT.sIx ds.length 0 lo=0/\HT.sIx ds.length ds.length hi=ds.length then none else some (D.tup (zxn ds lo hi)))=some d:=q4;split at q4
     · cases q4
     · rename_i hn;cases q4;obtain⟨p,vs,rfl,t,r⟩:=r3.refT;exact .inr ⟨p,vs,rfl,t.sq,by rw[<-r.length];exact hn,fun b hb=>k _ _ _ (E.trans (x9 hS3 _ hb)) (hS3.new _ hb) (Rep.tup (s:=hS3) hb (znm r lo hi))⟩
   |_=>cases q4
theorem zdq{o:Expr}{f h:E}{apos spos:Pos}(ho:FE X o f)(hv:FE X e h)
   (hbase:attributeBase o "append" X.env (eval o X.env)=eval o X.env:=by rfl)
   (hfew:((backTo pos (starEach [e] X.env)).all (fun x=>!x.1)&&(backToKw pos (keywordEach [] X.env)).all (fun x=>x.1.isSome)
     && decide ([e].length+([]:List Keyword).length+(if([]:List Keyword).isEmpty then 0 else 1)<30))=true:=by rfl)
   (hline:(apos.endLine==pos.line)=true:=by rfl) (hs:starEach [e] X.env=(false,eval e X.env)::starEach [] X.env:=by exact zx rfl) (hplain:(backTo pos (starEach [] X.env)).any (·.1)=false:=by exact qt rfl)
   (hsw:swapsWith (.Call (.Attribute o "append" apos) [e] [] pos) none spos.line X.env=pure false:=by rfl) :
   FS X (.Expr (.Call (.Attribute o "append" apos) [e] [] pos) spos) (yk f h) :=
 kt (zlv (zzf PySem.F.plainAttrs_list PySem.F.slot_list_append PySem.F.type_list_append zl9 ho (za hv zb hs) hbase hfew hline hs hplain) hsw) fun σ H D h=>by
   obtain⟨ρ,ev,S,o,S',hE,hS,hf,k⟩:=h;obtain⟨⟨x,S1⟩,q1,hf⟩:=zy hf;cases x with
   | obj a=>
     dsimp only at hf;split at hf
     · rename_i ds0 hd0;obtain⟨⟨y,S2⟩,q2,hf⟩:=zy hf;dsimp only at hf;split at hf
       · rename_i ds hd;split at hf
         · rename_i hl;cases hf;refine⟨ρ,ev,S,_,S1,hE,hS,q1,fun v ρ1 H1 E1 hS1 r1=>?_⟩;have r1':=r1;unfold Rep at r1';obtain⟨p,rfl,hp⟩:=r1';obtain⟨us0,hu0,_⟩:=hS1.ob a _ p hd0 hp;refine⟨.inl ⟨rfl,_,SqL.of hu0⟩,ρ1,ev,S1,[y],S2,hE.mono E1,hS1,by simp only[aC,aN,q2,Option.bind_some],fun vs ρ2 H2 E2 hS2 r2=>?_⟩;obtain⟨w,rfl,r3⟩:=one r2;have hp2:=E2.pre _ _ hp;obtain⟨us,h2,h3⟩:=hS2.ob a _ p hd hp2;have e0:=zh2 hS2 (.lst (us++[w])) hp2;refine⟨p,us,w,rfl,rfl,h2,by rw[<-h3.length];exact hl,?_⟩;refine k σ ρ2 _ ((E1.trans E2).trans e0) (hS2.set hp2 ⟨_,jd,?_⟩) (((hE.mono E1).mono E2).mono e0);exact(h3.append (RepL.cons r3 RepL.nil)).mono e0
         · cases hf
       · cases hf
     · cases hf
   |_=>cases hf
theorem zhb:bootBuiltins "list"=some (.type "list"):=by with_unfolding_all rfl
theorem boot_tuple:bootBuiltins "tuple"=some (.type "tuple"):=by with_unfolding_all rfl
theorem zp3:bootBuiltins "int"=some (.type "int"):=by with_unfolding_all rfl
theorem boot_bool:bootBuiltins "bool"=some (.type "bool"):=by with_unfolding_all rfl
end
def znj(n:Nat)(g:G):G:=fun ds S=>g (ds++List.replicate n .non) S
theorem za6(i:Nat){X:Cx}{x:Str}{px:Pos}{es:List Expr}{is:List Nat}{t:TGs}(hN:X.N.Nodup)(h:Names X es is t)(hi:X.N[i]? = some x:=by rfl)(hx:Loc X.env.scope x:=by first | exact Or.inl rfl | exact Or.inr rfl)
   (hf:X.fn x=true\/X.env.scope.names.lookup x=some .local:=by first | exact .inl rfl | exact .inr rfl | assumption)
   (hs:(assignEach (.Name x px::es) X.env).map (·.2)=assign (.Name x px) X.env::(assignEach es X.env).map (·.2):=by rfl):Names X (.Name x px::es) (i::is) (zpk (zgt i) t) :=
 .cons hN hi hx hf h (zow (ze8 hN hi hx hf) h.pgs hs)
def z0m(K:zFr)(dV:Value):Nat->Prop
 |0=>dV=.none
 |n+1=>∃(T:Addr) (o:Obj) (m:Nat),dV=.ref T/\K.lookup T=some o/\o.data=.seq (Array.replicate (n+1) Value.none) m
structure HasDef (K:zFr) (mg:zMg) (x:Str) (st:Stmt) (nd:Nat):Prop where
 ex:∃(f:Addr) (fd:FuncData) (dV:Value),FunD K x x st f fd dV/\mg x=some (.ref f)/\z0m K dV nd
structure HasMth (K:zFr) (mg:zMg) (c m qual:Str) (st:Stmt):Prop where
 ex:∃(C f:Addr) (fd:FuncData),FunD K m qual st f fd .none/\mg c=some (.ref C)/\Cls K C/\Meth K C m f
structure HasMk (K:zFr) (mg:zMg) (c qual:Str) (st:Stmt) (nd:Nat):Prop where
 ex:∃(C f:Addr) (fd:FuncData) (dV:Value),FunD K "__init__" qual st f fd dV/\mg c=some (.ref C)/\Mk K C f/\z0m K dV nd
def zrc(x qual:Str)(st:Stmt)(ps:List Str):Prop:=∀(kV doc pm:Value) (an:Option Addr) (cdv ct:Value) (us:List Value),us.length=ps.length ->
 bindArgs (PySem.W.fnOf x qual (za0 st) (j0 st) (zi st) .none kV doc pm an cdv ct) ⟨us,[]⟩=pure (ps.zip us)
def z0o(x qual:Str)(st:Stmt)(ps:List Str)(n:Nat):Prop:=∀(T:Addr) (kV doc pm:Value) (an:Option Addr) (cdv ct:Value) (us:List Value),us.length=n ->
 ∃kk,bindArgs (PySem.W.fnOf x qual (za0 st) (j0 st) (zi st) (.ref T) kV doc pm an cdv ct) ⟨us,[]⟩=(seqItems? (.ref T) >>= kk)/\kk (some #[Value.none])=pure (ps.zip (us++List.replicate (ps.length-n) Value.none))
section
variable {P:Program}{w:World}{K:zFr}{mg:zMg}{base:Heap}{x qual c m:Str}{st:Stmt}{N ps:List Str}{k:Nat}{b:C}{dV:Value}{f:Addr}{fd:FuncData}
abbrev zx6(P:Program)(w:World)(K:zFr)(mg:zMg)(base:Heap)(N:List Str)(qual:Str)(st:Stmt)(k:Nat)(b:C):Prop :=
 ∀(f:Addr) (cdv:Value) (A:Around) (outer:List Env) (s:Shared) (H:Hp) (E:XK),Room k (A.deeper (envOfC qual (zi st) s.heap.objs.size f cdv)) ->
     FSs (zd8 CX0 P w K mg base N qual (zi st) f cdv A outer s H E).nox (j0 st) b
theorem FunD.binds0(F:FunD K x qual st f fd .none)(h:zrc x qual st ps):Binds K fd ps []:=by obtain⟨oc,od,kV,doc,pm,an,cdv,ct,osl,rfl,lk,hcd⟩:=F.ex;exact .all (h kV doc pm an cdv ct)
theorem FunD.binds1(F:FunD K x qual st f fd dV)(hd:z0m K dV 1){n:Nat}(h:z0o x qual st ps n)(hn:n<=ps.length):Binds K fd ps (List.replicate (ps.length-n) Value.none):=by obtain⟨oc,od,kV,doc,pm,an,cdv,ct,osl,rfl,lk,hcd⟩:=F.ex;obtain⟨T,o,mm,rfl,hT,ho⟩:=hd;intro s us hK hl;obtain⟨kk,h1,h2⟩:=h T kV doc pm an cdv ct us (by rw[z13,List.length_replicate]at hl;omega);exact BindsTo.of_defaults rfl (hK T o hT) ho h1 h2
theorem zik:∀n:Nat,Vals (List.replicate n V.non) (List.replicate n Value.none)
 |0=>.nil
 |n+1=>.cons rfl (zik n)
theorem zlo{ρ H}:∀n:Nat,RepL K mg ρ H (List.replicate n D.non) (List.replicate n V.non)
 |0=>RepL.nil
 |n+1=>RepL.cons rfl (zlo n)
theorem ztr:FnOk P w K mg base CX0 k f fd ps (spG K mg fun _ _=>none):=by
 have no:∀vs H Q E,¬ spG K mg (fun _ _=>none) vs H Q E:=fun vs H Q E h=>by obtain⟨_,_,_,_,_,_,_,h,_⟩:=h;cases h
 exact⟨fun vs H Q E h=>absurd h (no vs H Q E),fun A outer s H args us vs Q E _ _ _ _ h=>absurd h (no vs H Q E)⟩
theorem HasDef.cal(h:HasDef K mg x st 0)(S:FnScope N ps (zi st))(hb:zrc x x st ps)(hbody:zx6 P w K mg base N x st k b):Cal P w K mg base (k+1) x (zv N.length ps.length b):=by obtain⟨f,fd,dV,F,hm,rfl⟩:=h.ex;exact⟨f,fd,ps,[],[],[],_,F.ok S fun cdv A outer s H E hr=>hbody f cdv A outer s H E hr,hm,F.kp,F.binds0 hb,.nil,fun _ _=>RepL.nil,fun args S r e=>by rw[z2y];exact e⟩
theorem HasDef.none0(h:HasDef K mg x st 0)(hb:zrc x x st ps):Cal P w K mg base k x (fun _ _=>none):=by obtain⟨f,fd,dV,F,hm,rfl⟩:=h.ex;exact⟨f,fd,ps,[],[],[],_,ztr,hm,F.kp,F.binds0 hb,.nil,fun _ _=>RepL.nil,fun args S r e=>by cases e⟩
theorem HasMth.mth(h:HasMth K mg c m qual st)(S:FnScope N ps (zi st))(hb:zrc m qual st ps)(hbody:zx6 P w K mg base N qual st k b):Mth P w K mg base (k+1) c m (zv N.length ps.length b):=by obtain⟨C,f,fd,F,hm,hc,hme⟩:=h.ex;exact⟨C,f,fd,ps,[],[],[],_,F.ok S fun cdv A outer s H E hr=>hbody f cdv A outer s H E hr,hm,hc,hme,F.binds0 hb,.nil,fun _ _=>RepL.nil,fun args S r e=>by rw[z2y];exact e⟩
theorem HasMk.mk0(h:HasMk K mg c qual st 0)(S:FnScope N ps (zi st))(hb:zrc "__init__" qual st ps)(hbody:zx6 P w K mg base N qual st k b):Mak P w K mg base (k+1) c (zv N.length ps.length b):=by obtain⟨C,f,fd,dV,F,hm,hme,rfl⟩:=h.ex;exact⟨C,f,fd,ps,[],[],[],_,F.ok S fun cdv A outer s H E hr=>hbody f cdv A outer s H E hr,hm,hme,F.binds0 hb,.nil,fun _ _=>RepL.nil,fun args S r e=>by rw[z2y];exact e⟩
theorem HasMk.mk1(h:HasMk K mg c qual st 1)(S:FnScope N ps (zi st))(hb:z0o "__init__" qual st ps ps.length)(hbody:zx6 P w K mg base N qual st k b):Mak P w K mg base (k+1) c (zv N.length ps.length b):=by obtain⟨C,f,fd,dV,F,hm,hme,hd⟩:=h.ex;have B:=F.binds1 hd hb (z16 _);rw[Nat.sub_self]at B;exact⟨C,f,fd,ps,[],[],[],_,F.ok S fun cdv A outer s H E hr=>hbody f cdv A outer s H E hr,hm,hme,B,.nil,fun _ _=>RepL.nil,fun args S r e=>by rw[z2y];exact e⟩
theorem HasMk.mk1d(h:HasMk K mg c qual st 1)(S:FnScope N ps (zi st)){n:Nat}(hn:ps.length=n+1)(hb:z0o "__init__" qual st ps n)(hbody:zx6 P w K mg base N qual st k b):Mak P w K mg base (k+1) c (znj 1 (zv N.length ps.length b)):=by obtain⟨C,f,fd,dV,F,hm,hme,hd⟩:=h.ex;have B:=F.binds1 hd hb (by omega);rw[hn,Nat.add_sub_cancel_left]at B;exact⟨C,f,fd,ps,_,_,_,_,F.ok S fun cdv A outer s H E hr=>hbody f cdv A outer s H E hr,hm,hme,B,zik 1,fun _ _=>zlo 1,fun args S r e=>e⟩
end
section
variable {K:zFr}{h:Heap}{mg:zMg} (X:K.In h) (G:h.Ns mainGlobals mg)
include X G
theorem has_def{x:Str}{st:Stmt}{f:Addr}{oc:Value}{od an:Option Addr}{osl:Array (Option Value)}{kV doc pm cdv ct:Value}(a:PySem.W.nsIn K mainGlobals x=some (some (.ref f)))
   (l:K.lookup f=some ⟨oc,od,.func (PySem.W.fnOf x x (za0 st) (j0 st) (zi st) .none kV doc pm an cdv ct),osl⟩) (c:PySem.W.codeIn K cdv x=true) (k:PySem.W.keepIn K (.ref f)=true):HasDef K mg x st 0 :=
 ⟨f,_,.none,⟨⟨oc,od,kV,doc,pm,an,cdv,ct,osl,rfl,l,c⟩,k⟩,z3y X G a,rfl⟩
theorem has_mth{cn m qual:Str}{st:Stmt}{C f:Addr}{oc:Value}{od an:Option Addr}{osl:Array (Option Value)}{kV doc pm cdv ct:Value}(aC:PySem.W.nsIn K mainGlobals cn=some (some (.ref C)))(hc:Cls K C)
   (a:PySem.W.findIn K (.ref C) m=some (some (.ref f))) (i:PySem.W.isFn K (.ref f)=true)
   (l:K.lookup f=some ⟨oc,od,.func (PySem.W.fnOf m qual (za0 st) (j0 st) (zi st) .none kV doc pm an cdv ct),osl⟩) (c:PySem.W.codeIn K cdv qual=true) (k:PySem.W.keepIn K (.ref f)=true):HasMth K mg cn m qual st :=
 ⟨C,f,_,⟨⟨oc,od,kV,doc,pm,an,cdv,ct,osl,rfl,l,c⟩,k⟩,z3y X G aC,hc,⟨a,i,k⟩⟩
theorem has_mk{cn qual:Str}{st:Stmt}{C f:Addr}{oc:Value}{od an:Option Addr}{osl:Array (Option Value)}{kV doc pm cdv ct:Value}(aC:PySem.W.nsIn K mainGlobals cn=some (some (.ref C)))
   (mk:PySem.W.makesIn K C=true) (kc:PySem.W.keepIn K (.ref C)=true) (a:PySem.W.findIn K (.ref C) "__init__"=some (some (.ref f))) (i:PySem.W.isFn K (.ref f)=true)
   (l:K.lookup f=some ⟨oc,od,.func (PySem.W.fnOf "__init__" qual (za0 st) (j0 st) (zi st) .none kV doc pm an cdv ct),osl⟩) (c:PySem.W.codeIn K cdv qual=true) (k:PySem.W.keepIn K (.ref f)=true):HasMk K mg cn qual st 0 :=
 ⟨C,f,_,.none,⟨⟨oc,od,kV,doc,pm,an,cdv,ct,osl,rfl,l,c⟩,k⟩,z3y X G aC,⟨mk,a,i,kc⟩,rfl⟩
theorem has_mk1{cn qual:Str}{st:Stmt}{C f T:Addr}{oc tc:Value}{od an td:Option Addr}{osl tsl:Array (Option Value)}{kV doc pm cdv ct:Value}{m:Nat}(aC:PySem.W.nsIn K mainGlobals cn=some (some (.ref C)))
   (mk:PySem.W.makesIn K C=true) (kc:PySem.W.keepIn K (.ref C)=true) (a:PySem.W.findIn K (.ref C) "__init__"=some (some (.ref f))) (i:PySem.W.isFn K (.ref f)=true)
   (l:K.lookup f=some ⟨oc,od,.func (PySem.W.fnOf "__init__" qual (za0 st) (j0 st) (zi st) (.ref T) kV doc pm an cdv ct),osl⟩) (c:PySem.W.codeIn K cdv qual=true) (k:PySem.W.keepIn K (.ref f)=true)
   (t:K.lookup T=some ⟨tc,td,.seq #[Value.none] m,tsl⟩):HasMk K mg cn qual st 1 :=
 ⟨C,f,_,.ref T,⟨⟨oc,od,kV,doc,pm,an,cdv,ct,osl,rfl,l,c⟩,k⟩,z3y X G aC,⟨mk,a,i,kc⟩,T,_,m,rfl,t,rfl⟩
theorem has_cls{cn:Str}{C:Addr}(aC:PySem.W.nsIn K mainGlobals cn=some (some (.ref C)))(pg:PySem.W.plainGet K C Str.empty=true)(hd:PySem.W.hasDictIn K C=true)(po:PySem.W.plainOver K C=true)(sa:PySem.W.findIn K (.ref C) "__setattr__"=some (some (.builtin "object.__setattr__"))):Cls K C:=⟨pg,hd,po,sa⟩
theorem has_fld{cn n:Str}{C:Addr}(aC:PySem.W.nsIn K mainGlobals cn=some (some (.ref C)))(hc:Cls K C)(a:PySem.W.findIn K (.ref C) n=some none):Fld K mg cn n:=fun C' e=>by rw[z3y X G aC]at e;cases e;exact⟨hc,a⟩
theorem has_int{x:Str}{n:Int}{t:Tok}(a:PySem.W.nsIn K mainGlobals x=some (some (.int n t))):∃t,mg x=some (.int n t):=⟨t,z3y X G a⟩
end
def zx4(g:G):Prop:=∀ns:List Int,ns.length<=63->∃S,g [.lst (ns.map D.int)] []=some (.bl true,S)
theorem zi0{K mg ρ H}:∀ns:List Int,RepL K mg ρ H (ns.map D.int) (ns.map V.int)
 | []=>RepL.nil
 |_::ns=>RepL.cons rfl (zi0 ns)
theorem law_walk{l:PySem.W.OpenLaw}{q:Program}{loose:List Str}{XP:(zMg)->Heap->Prop}{YP:World->Heap->Prop}{d:DefRec}{K:Params->zFr}{k:Nat}{g:G}{x:Str}(hn:l.most=some 63)(hdf:d.params.defaults=[])(hr:Room k callerA)
   (hY:∀(w:World) (h:Heap),YP w h->(K w.params).In h) (hg:zx4 g)
   (F:∀(w:World) (mg:zMg) (fa:Addr) (h:Heap),(K w.params).In h->h.Ns mainGlobals mg->mg d.name=some (.ref fa) ->
     ∃fd:FuncData,(∀(s:Shared) (u:Value),BindsTo s fd ⟨[u],[]⟩ [(x,u)])/\∀base:Heap,(K w.params).In base->base.Ns mainGlobals mg->FnOk l.prog w (K w.params) mg base CX0 k fa fd [x] (spG (K w.params) mg g)) :
   PySem.W.WalkO q loose XP YP l.row.toRowW d [] (fun f vs=>PySem.call f vs):=by
 refine L2.walk_of (n:=63) (k:=k) (x:=x) (CX:=fun _=>CX0) (sp:=fun w vs H Q E=>∃a ns,vs=[.ref a]/\ns.length<=63/\zyl H/\SqL (K w.params) H a (ns.map V.int)/\∀H',Q (.bl true) H') hn (by decide) hdf hr hY (fun w mg fa h KX G hm=>?_) (fun w H a ns hl hO hS=>⟨a,ns,rfl,hl,hO,hS,fun _=>rfl⟩) fun _ _ _ _ _ z=>z;obtain⟨fd,hb,hF⟩:=F w mg fa h KX G hm;refine⟨fd,hb,fun base kb nb=>(hF base kb nb).imp fun vs H Q E hq=>?_⟩;obtain⟨a,ns,rfl,hl,hO,hS,k⟩:=hq;obtain⟨S,hS'⟩:=hg ns hl;refine⟨[],[.lst (ns.map D.int)],[],.bl true,S,?_,⟨rfl,List.nodup_nil,fun i m a e=>by simp at e⟩,hS',fun v ρ' H' _ _ r=>by rw[show v=.bl true from r];exact k H'⟩;refine RepL.cons ?_ RepL.nil;unfold Rep;refine⟨a,ns.map V.int,rfl,?_,zi0 ns⟩;rcases hS with hS | hS
 · exact .inl ⟨by simp,hS⟩
 · exact .inr hS
def ztt:List D->Option (List V)
 | []=>some []
 |d::ds=>(zdr d).bind fun v=>(ztt ds).map fun r=>v::r
def zue:D->D->Option D
 | a,.tup ds=>(match zdr a,ztt ds with
   |some x,some xs=>some (.bl (inV x xs))
   |_,_=>none)
 |_,_=>none
section
variable {X:Cx}{K:zFr}{mg:zMg}
theorem zgu{ρ H}:∀{ds:List D}{xs vs:List V},ztt ds=some xs->RepL K mg ρ H ds vs->vs=xs/\xs.all zbu=true
 | [],_,_,e,r=>by cases e;unfold RepL at r;exact⟨r,rfl⟩
 | d::ds,_,_,e,r=>by unfold RepL at r;obtain⟨v,r',rfl,r1,r2⟩:=r;obtain⟨x,q1,e⟩:=zy e;obtain⟨xs,q2,e⟩:=zbf e;subst e;obtain⟨rfl,f1⟩:=j5 q1 r1;obtain⟨rfl,f2⟩:=zgu q2 r2;exact⟨rfl,by rw[List.all_cons,f1,f2];rfl⟩
theorem zu1:zhl K mg (rIn K false) (fun _=>zue):=by
 intro ρ H S x y dx dy d Q hS rx ry e k;dsimp only at e;unfold zue at e;split at e
 · rename_i ds;split at e
   · rename_i fx fs h1 h2;cases e;obtain⟨rfl,f1⟩:=j5 h1 rx;obtain⟨p,vs,rfl,t,r⟩:=ry.refT;obtain⟨rfl,f2⟩:=zgu h2 r;exact⟨p,_,rfl,.inr t.sq,f1,f2,k _ H (Ext.refl _ _) hS rfl⟩
   · cases e
 · cases e
theorem z0a{a b:Expr}{f g:E}{pos:Pos}(ha:FE X a f)(hb:FE X b g)(hm:behindInMarks .In b=false:=by rfl):FB X (.Compare a [.In] [b] pos) (bE (e2 zue f g)):=zby zl3 zu1 ha hb hm
end
section
variable {X:Cx}{pins:zAO}{σ:L2.St}{H:Hp}{s:Shared}{scope:Scope}{x:Str}{N':List Str}{fr:List Nat}
theorem zeq(iy:Nat){elt l:Expr}{px p2 p3 pos py spos:Pos}{yy:Str}{f g:E}(c:CompOk X scope x N' fr)(hm:X.mg "range"=none)(hl:FE X l f)(helt:∀s₀ H₀ C ex,FE (zew X (x::N') scope s₀ H₀ C ex) elt g)(hN:X.N.Nodup)
   (hsw:swapsWith (.ListComp elt [⟨.Name x px,.Call (.Name "range" p2) [l] [] p3,[],0⟩] scope pos) (some (.Name yy py)) spos.line X.env=pure true:=by rfl)
   (hiy:X.N[iy]? = some yy:=by rfl) (hyy:Loc X.env.scope yy:=by first | exact Or.inl rfl | exact Or.inr rfl) (hfy:X.fn yy=true\/X.env.scope.names.lookup yy=some .local:=by first | exact .inl rfl | exact .inr rfl | assumption)
   (hg:Gl X "range":=by rfl) (hc:X.calm=true:=by rfl) (hst:starEach [l] X.env=[(false,eval l X.env)]:=by exact zx rfl) (hs:∀v,foldedSetIterable (.Call (.Name "range" p2) [l] [] p3) X.env v=pure v:=by intro _;rfl) :
   FS X (.Assign [.Name yy py] (.ListComp elt [⟨.Name x px,.Call (.Name "range" p2) [l] [] p3,[],0⟩] scope pos) spos) (qo iy (zev fr f g)):=by
 intro pins s σ H EN I h;obtain⟨ρ,ev,S,o,S',hE,hS,hf,k⟩:=h;obtain⟨⟨dd,SS⟩,hq0,hf0⟩:=zbf hf;clear hf;cases hf0;obtain⟨⟨y,S1⟩,q1,hf⟩:=zy hq0;clear hq0;cases y with
 | int j=>
   dsimp only at hf;split at hf
   · rename_i hj;obtain⟨⟨ds,S2⟩,q2,hf⟩:=zbf hf;cases hf;rw[exec_Assign_Name_used _ _ _ _ hsw];refine z12 (z42 (z12 ?_));show wpAny _ X.A (do let _ <-comprehension (.ListComp elt [⟨.Name x px,.Call (.Name "range" p2) [l] [] p3,[],0⟩] scope pos) scope X.env _ (newList []) false (eval (.Call (.Name "range" p2) [l] [] p3) X.env) (some (assign (.Name yy py) X.env))) _ _ s;refine z12 (z43 (wpAny_comprehension_free (use:=some (assign (.Name yy py) X.env)) (Q:=fun _ s'=>SP X pins EN .next s') rfl hs (zfr fun p hp e=>I.ok.has p.1 (.inl ((c.chk p hp).2.1 e))) c.kind (fun y hy e=>(c.chk y hy).2.2 e) ?_) (fun _ s' hq=>z2a (z2a hq)) fun _ _ e=>e);refine thn (zgl (tg:=.Name x px) hg hm (za hl zb hst) hst pins s σ H (fun J H1=>∃ρ1,J=Itr 0 j.toNat/\Ext ρ H ρ1 H1/\StOk X.K X.mg ρ1 H1 S1) I ⟨ρ,ev,S,[.int j],S1,hE,hS,by simp only[aC,aN,q1,Option.bind_some],fun vs ρ1 H1 E1 hS1 r1=>?_⟩) fun v s1 h1=>thn h1 fun itv s2 h2=>?_
     · unfold RepL at r1;obtain⟨v,r,rfl,r2,r3⟩:=r1;unfold RepL at r3;subst r3;exact⟨j,by rw[show v=.int j from r2],hj.1,hj.2.1,ρ1,rfl,E1,hS1⟩
     obtain⟨it,fp,tn,J,H2,e,I2,T,st2,f2,ρ1,eJ,E1,hS1⟩:=h2;subst e eJ;have hE1:=hE.mono E1;have hcell:∀y∈scope.names,y.2≠.cell:=fun y hy=>(c.chk y hy).1;refine z34 (wpAny_newFunctionEnv hcell (by intro y hy;simp at hy) (fun h₁ hns₁ hsb₁=>?_) c.kind);dsimp only at hns₁ hsb₁ ⊢;generalize hH2:s2.heap.push { cls:=.type "list",dict:=none,data:=.seq ([]:List Value).toArray }=G2 at hns₁ hsb₁ ⊢;have hC:G2.objs.size=s2.heap.objs.size+1:=by rw[<-hH2,z5i]
     have hDC:s2.heap.objs.size≠G2.objs.size:=by rw[hC];exact z2f (z5q _)
     have hCle:s2.heap.objs.size<=G2.objs.size:=by rw[hC];exact z4f _
     have old:∀b o,s2.heap.get? b=some o->h₁.get? b=some o:=fun b o e=>hsb₁.extBut b o (by rw[hC];exact z2f (Nat.lt_succ_of_lt (z2c e))) (z14 _ (hH2▸z14 _ e));have hacc:h₁.PlainList s2.heap.objs.size #[]:=⟨_,hsb₁.extBut _ _ hDC (z14 _ (hH2▸z2q _ rfl))⟩
     generalize hDl:s2.heap.objs.size=Dl at hDC hCle hacc;generalize hCC:G2.objs.size=C at hDC hCle hns₁ hsb₁ hC ⊢;have hfl:∀b∈fp,b<Dl:=fun b hb=>by obtain⟨o,e,_⟩:=T.obj 0 _ st2 b hb;rw[<-hDl];exact z2c e
     have hHD:H2 Dl=none:=I2.hok.fresh (by rw[hDl];exact z16 _);have hDfs:Dl∉frs X.stack:=fun z=>by
       have z':=I2.stkFree Dl z;rcases z2l.mp (I2.stkSub Dl z)with e | e
       · have:=I2.lt;rw[hDl,<-e]at this;exact z3n _ this
       · exact I2.nofs (by rw[hDl];exact z16 _) e
     generalize hX':zew X (x::N') scope s2 H2 C fp=X';have I3:Inv X' [] (none::fr.map (zga σ)) H2 { s2 with heap:=h₁,toks:=s2.toks+([]:List (Str×Value)).length }:=hX'▸c.start I2 f2 (by rw[hDl];exact hfl) (by rw[hDl];exact hCle) old hns₁;have hEf:EnvR X.K X.mg ρ1 H2 (none::fr.map (zqy ev)) (none::fr.map (zga σ)):=by
       refine⟨by simp,fun i d q=>?_⟩;cases i with
       |zero=>simp at q
       | succ i=>
         have q:(fr.map (zqy ev))[i]? = some (some d):=by simpa using q
         rw[z3l]at q;cases ej:fr[i]? with
         |none=>rw[ej]at q;cases q
         | some jj=>
           rw[ej]at q;have q:zqy ev jj=some d:=by simpa using q
           have hv:ev[jj]? = some (some d):=by
             unfold zqy at q;split at q
             · rename_i o ho;rw[ho,q]
             · cases q
           obtain⟨v,e1,r⟩:=hE1.at_ jj d hv;refine⟨v,?_,r⟩;show(fr.map (zga σ))[i]? = some (some v);rw[z3l,ej];show some (zga σ jj)=_;unfold zga;rw[e1]
     have eA:X'.A=X.A:=by rw[<-hX'];rfl
     have eP:X'.prog=X.prog:=by rw[<-hX'];rfl
     have eW:X'.w=X.w:=by rw[<-hX'];rfl
     have eK:X'.K=X.K:=by rw[<-hX'];rfl
     have eM:X'.mg=X.mg:=by rw[<-hX'];rfl
     have eEx:X'.ex=fp:=by rw[<-hX'];rfl
     have eS0:X'.s₀=s2:=by rw[<-hX'];rfl
     have eH0:X'.H₀=H2:=by rw[<-hX'];rfl
     have eFs:X'.fs=frs X.stack:=by rw[<-hX'];rfl
     have eL:X'.env.locals=C:=by rw[<-hX'];rfl
     have ePn:X'.pn=[]:=by rw[<-hX'];rfl
     have eEnv:X'.env=compEnvC scope (zhk X.env.cells scope.names []) C X.env:=by rw[<-hX'];rfl
     have eCalm:X'.calm=true:=by rw[<-hX'];exact hc
     have eXe:X'.xe=fun _ _=>False:=by rw[<-hX'];rfl
     have pgx:PG X' (.Name x px) (zgt 0):=by rw[<-hX'];exact ze8 c.nd rfl (.inl (lookup_relabel_local c.hx)) (.inr (lookup_relabel_local c.hx))
     have fel:FE X' elt g:=hX'▸helt s2 H2 C fp;have cellLt:∀y a,X'.env.cells.lookup y=some a->a<Dl:=fun y a e=>by rw[eEnv]at e;obtain⟨v,q⟩:=I2.cell y a (zc0 (fun _ _ h=>by cases h) y a e);rw[<-hDl];exact q.lt
     have stat:∀{H':Hp}{pl:zAO},(∀b∈fp,H' b=none)->(∀p∈pl,∀b∈fp,p.1≠b)->∀b∈fp,zrb X' pl H' b:=fun {H' pl} hn hp b hb=>
       ⟨hn b hb,by rw[eL];exact z2f (z18 (hfl b hb) hCle),by rw[eFs];intro z;rcases z2l.mp (I2.stkSub b z)with e | e;exact(f2 b hb).2.1 e;exact(f2 b hb).2.2.1 e,.inl (by rw[eEx];exact hb),fun y a e=>by
         rw[eEnv]at e;exact(f2 b hb).2.2.2.2.1 y a (zc0 (fun _ _ h=>by cases h) y a e),fun p hpp=>hp p (by rw[ePn]at hpp;simpa using hpp) b hb⟩
     have loop:∀s₃:Shared,s₃={ s2 with heap:=h₁,toks:=s2.toks+([]:List (Str×Value)).length } ->
         codeAny (model X.prog X.w) X.A (.compLoop (.ListComp elt [⟨.Name x px,.Call (.Name "range" p2) [l] [] p3,[],0⟩] scope pos) 0 (.ref it) (.ref Dl) (compEnvC scope (zhk X.env.cells scope.names []) C X.env))
           (compPost (model X.prog X.w) X.A X.xe (some (assign (.Name yy py) X.env)) (fun _ s'=>SP X pins EN .next s') (.ref Dl) C) s₃:=by
       rintro s₃ rfl;refine codeAny_compLoop_list (z0n X X' g (fr.map (zqy ev)) (fr.map (zga σ)) fp tn Dl j.toNat ρ1 H2 ds S2) ?_ (j.toNat-0)
         ⟨0,ρ1,H2,[],[],[],ds,S1,none,rfl,z2x _,I3,T.keep _ _ _ st2 (fun b hb o e=>old b o e),fun b hb=>(f2 b hb).1,hHD,hacc,.nil,Ext.refl _ _,hS1,RepL.nil,rfl,q2,rfl⟩
       intro m st hI;generalize notedBy (model X.prog X.w) X.A (compEnvC scope (zhk X.env.cells scope.names []) C X.env) (fun e s'=>compPost (model X.prog X.w) X.A X.xe (some (assign (.Name yy py) X.env)) (fun _ s'=>SP X pins EN .next s') (.ref Dl) C (.error e) s')=EE;obtain⟨i,ρ',H',ys,its,acc,rest,Si,w,rfl,hi,I',tni,hfp',hD',⟨nn,hpl⟩,rv,E',hSi,ra,hal,hcl,hds⟩:=hI;have Ip:Inv X' [(Dl,{ cls:=.type "list",data:=.seq (List.toArray its) nn })] (w::fr.map (zga σ)) H' st:=I'.pins_of fun p hp=>by rw[z20.mp hp];exact⟨hpl,hD',by rw[eL];exact hDC,by rw[eFs];exact hDfs,fun v z=>by cases z⟩
       have hnp:∀p∈[(Dl,({ cls:=.type "list",data:=.seq (List.toArray its) nn }:Obj))],∀b∈fp,p.1≠b:=fun p hp b hb=>by rw[z20.mp hp];exact z26 (z2f (hfl b hb))
       by_cases hlt:i<j.toNat
       · have hrd:(jb 0 j.toNat).drop i=D.int (0+(i:Int))::(jb 0 j.toNat).drop (i+1):=by
           have hjl:i<(jb 0 j.toNat).length:=by unfold jb;simpa using hlt
           rw[z3o hjl];simp[jb]
         rw[hrd]at hcl;obtain⟨⟨yv,Sn⟩,qe,hcl⟩:=zy hcl;obtain⟨⟨rest',Se⟩,qr,hcl⟩:=zy hcl;cases hcl;have ti:=T.item X' eP eW eK eCalm i [(Dl,{ cls:=.type "list",data:=.seq (List.toArray its) nn })] st (w::fr.map (zga σ)) H' EE Ip (stat hfp' hnp) tni hlt;rw[eA]at ti;refine thn ti fun r s4 ⟨u,hr,h4⟩=>?_;subst hr;dsimp only;show wpAny (model X.prog X.w) X.A (letOwnedTupleGo (.Name x px) (.ref it) u >>= fun _=>assign (.Name x px) (compEnvC scope (zhk X.env.cells scope.names []) C X.env) u) _ _ _;refine z12 (thn h4 fun _ s5 ⟨xv,H5,I5,r5,y5,tn5,fp5⟩=>?_);obtain⟨eH5,exv⟩:=y5;subst eH5 exv;have I5':=I5.pinned (stat fp5 hnp) (T.obj _ _ tn5);have as5:=pgx _ s5 _ H5 _ u (fun σ' H'=>H'=H5/\σ'=(w::fr.map (zga σ)).set 0 (some (.int (0+(i:Int))))) I5' r5 ⟨rfl,rfl⟩;rw[eP,eW,eA,eEnv,eXe]at as5;refine z43 as5 (fun _ s6 ⟨σ6,H6,I6,eH6,eσ6⟩=>?_) (fun _ _ z=>False.elim z);subst eH6 eσ6;have hE6:EnvR X.K X.mg ρ' H6 (some (.int (0+(i:Int)))::fr.map (zqy ev)) (some (.int (0+(i:Int)))::fr.map (zga σ)):=(hEf.mono E').set (i:=0) (d:=.int (0+(i:Int))) (v:=.int (0+(i:Int))) rfl;have el6:=fel _ s6 _ H6 (fun v H7=>∃ρ7,Ext ρ' H6 ρ7 H7/\StOk X.K X.mg ρ7 H7 Sn/\Rep X.K X.mg ρ7 H7 yv v) I6 ⟨ρ',_,Si,yv,Sn,by rw[eK,eM];exact hE6,by rw[eK,eM];exact hSi,qe,fun v ρ7 H7 E7 hS7 r7=>⟨ρ7,E7,by rw[eK,eM]at hS7;exact hS7,by rw[eK,eM]at r7;exact r7⟩⟩;rw[eP,eW,eA,eEnv,eXe]at el6;refine z43 el6 (fun u7 s7 ⟨v7,H7,I7,r7,ρ7,E7,hS7,rp7⟩=>?_) (fun _ _ z=>False.elim z);have hpin:=I7.pin (Dl,{ cls:=.type "list",data:=.seq (List.toArray its) nn }) (z2i _ (z4b _ (z20.mpr rfl)));have hvl:=rv.length;have hral:=ra.length;refine wpAny_list_append_plain ⟨nn,hpin.1⟩ (fun h8 hp8 hsb8=>?_) (by rw[z17];omega);have I8:Inv X' [] (some (.int (0+(i:Int)))::fr.map (zga σ)) H7 { s7 with heap:=h8 }:=by
           have I7':Inv X' [] (some (.int (0+(i:Int)))::fr.map (zga σ)) H7 s7:=I7.pins_of fun p hp=>by cases hp
           exact I7'.turned (it:=Dl) (t':=s7.toks) (fun b o hb e=>(hsb8.2 b hb).trans e) hpin.2.1 (by rw[eL];exact hDC) (.inr (by rw[eS0,hDl];exact z16 _)) (fun y a e=>z2f (cellLt y a e)) (fun p hp=>by rw[ePn]at hp;cases hp)
         have tn8:tn (i+1) h8:=T.keep _ _ _ tn5 fun b hb o e=>by have:=(I7.pin (b,o) (z2i _ (z2i _ (za7 hb e)))).1;exact(hsb8.2 b (z2f (hfl b hb))).trans this
         refine⟨j.toNat-(i+1),by omega,i+1,ρ7,H7,ys++[v7],its++[u7],acc++[yv],rest',Sn,_,rfl,by omega,I8,tn8,fun b hb=>?_,hpin.2.1,?_,rv.append (.cons r7 .nil),E'.trans E7,hS7,(ra.mono E7).append (RepL.cons rp7 RepL.nil),by simp[hal],qr,by simp[hds]⟩
         · obtain⟨o,e,dd⟩:=T.obj _ _ tn5 b hb;exact(I7.pin (b,o) (z2i _ (z2i _ (za7 hb e)))).2.1
         · rw[show(its++[u7]).toArray=its.toArray.push u7 by simp];exact hp8
       · have ei:i=j.toNat:=by omega
         have td:=T.done X' eP eW eK eCalm i [(Dl,{ cls:=.type "list",data:=.seq (List.toArray its) nn })] st (w::fr.map (zga σ)) H' EE Ip (stat hfp' hnp) tni (by show j.toNat<=i;omega);rw[eA]at td;refine thn td fun r s4 ⟨hr,I4⟩=>?_;subst hr;dsimp only;rw[z4t (by unfold jb;simp;omega)]at hcl;cases hcl;rw[z2y]at hds;subst hds;obtain⟨mm,hns,_⟩:=id I4.loc;rw[eL]at hns;have hpin:=I4.pin (Dl,{ cls:=.type "list",data:=.seq (List.toArray its) nn }) (z2i _ (z20.mpr rfl));have hHC:H' C=none:=by have:=I4.free;rw[eL]at this;exact this
         have bs:=I4.base;rw[eFs,eEx,eH0,eS0]at bs;have hok4:=I4.hok;rw[eP,eW]at hok4;have os4:=I4.os;rw[eS0]at os4;have I9:Inv X pins σ H' s4:=I2.call' (s':=s4) os4 bs hok4 I4.bare fun b hb=>by obtain⟨_,a1,a2,a3,a4,a5⟩:=f2 b hb;exact⟨a3,a1,a4,a5⟩
         have hvl:=rv.length;have hral:=ra.length;have hDl2:s2.heap.objs.size<=Dl:=by rw[hDl];exact z16 _
         have cl2:∀y a,X.env.cells.lookup y=some a->a<Dl:=fun y a e=>by obtain⟨v,q⟩:=I2.cell y a e;exact z18 q.lt hDl2
         have pl2:∀q∈X.pn++pins,q.1<Dl:=fun q hq=>z18 (z2c (I2.pin q hq).1) hDl2;have ll2:X.env.locals<Dl:=z18 I2.lt hDl2;have I10:Inv X pins σ (upd H' Dl (.lst ys)) s4:=Inv.track (its:=its) (n:=nn) I9 hD' hpin.1 rv (by omega) (.inr (z2h I2.sz hDl2)) (z26 (z2f ll2))
           (fun y a e=>z2f (cl2 y a e)) (fun q hq=>z2f (pl2 q hq))
         refine wpAny_assign_Name (zgc I10 hN hiy hyy (v:=.ref Dl) rfl (fun s5 I5 ⟨aa,sb,ha⟩=>?_) hfy);have hCa:C≠aa:=by
           rcases ha with rfl | ha
           · exact z26 (z2f (z18 ll2 hCle))
           · exact z26 (z2f (z18 (cl2 _ _ ha) hCle))
         refine⟨mm,hns.sameBut sb hCa,fun h' hs'=>?_⟩;have hnC:upd H' Dl (.lst ys) C=none:=by rw[zw (z26 hDC)];exact hHC
         have I6:=I5.turned (it:=C) (t':=s5.toks) (h':=h') (fun b o hb e=>(hs'.2 b hb).trans e) hnC (z26 (z2f (z18 ll2 hCle))) (.inr (z2h I2.sz (z2h hDl2 hCle)))
           (fun y a e=>z2f (z18 (cl2 y a e) hCle)) (fun q hq=>z2f (z18 (pl2 q hq) hCle))
         have ext:=E1.trans (E'.trans (x9 hSi (.lst ys) hD'));exact⟨_,_,I6,k _ ρ' _ ext (hSi.new _ hD') ((hE.mono ext).set (Rep.lst (s:=hSi) hD' ra) iy)⟩
     exact codeAny_compStart_list (loop _ rfl) (T.self X.A 0 _ _ _ (T.keep _ _ _ st2 (fun b hb o e=>old b o e)) (loop _ rfl))
   · cases hf
 |_=>cases hf
end
def zb3(op op':D->D->Option D)(f g h:E):E:=fun ev S=>(f ev S).bind fun p=>(g ev p.2).bind fun q=>(op p.1 q.1).bind fun z=>match z with
 | .bl true=>(h ev q.2).bind fun r=>(op' q.1 r.1).map fun d=>(d,r.2)
 | .bl false=>some (.bl false,q.2)
 |_=>none
theorem ls1{P:List Value->Prop}(h:∀a0,P [a0])(us:List Value)(hl:us.length=1):P us:=match us,hl with
 | [a0],_=>h a0
theorem ls2{P:List Value->Prop}(h:∀a0 a1,P [a0,a1])(us:List Value)(hl:us.length=2):P us:=match us,hl with
 | [a0,a1],_=>h a0 a1
theorem ls3{P:List Value->Prop}(h:∀a0 a1 a2,P [a0,a1,a2])(us:List Value)(hl:us.length=3):P us:=match us,hl with
 | [a0,a1,a2],_=>h a0 a1 a2
theorem ls4{P:List Value->Prop}(h:∀a0 a1 a2 a3,P [a0,a1,a2,a3])(us:List Value)(hl:us.length=4):P us:=match us,hl with
 | [a0,a1,a2,a3],_=>h a0 a1 a2 a3
theorem ls5{P:List Value->Prop}(h:∀a0 a1 a2 a3 a4,P [a0,a1,a2,a3,a4])(us:List Value)(hl:us.length=5):P us:=match us,hl with
 | [a0,a1,a2,a3,a4],_=>h a0 a1 a2 a3 a4
theorem ls6{P:List Value->Prop}(h:∀a0 a1 a2 a3 a4 a5,P [a0,a1,a2,a3,a4,a5])(us:List Value)(hl:us.length=6):P us:=match us,hl with
 | [a0,a1,a2,a3,a4,a5],_=>h a0 a1 a2 a3 a4 a5
def zfo(op op' op2:D->D->Option D)(f g h i:E):E:=fun ev S=>(f ev S).bind fun p=>(g ev p.2).bind fun q=>(op p.1 q.1).bind fun z=>match z with
 | .bl true=>(h ev q.2).bind fun r=>(op' q.1 r.1).bind fun z=>(match z with
   | .bl true=>(i ev r.2).bind fun t=>(op2 r.1 t.1).map fun d=>(d,t.2)
   | .bl false=>some (.bl false,r.2)
   |_=>none)
 | .bl false=>some (.bl false,q.2)
 |_=>none
section
variable {X:Cx}{e:Expr}{es:List Expr}{f:E}{g:As}{p pos:Pos}
theorem zrj{R R':R2}{op op':D->D->Option D}{f g h:E}{σ:L2.St}{H:Hp}{Q:VK}(hs:zhl X.K X.mg R fun _=>op)(hs':zhl X.K X.mg R' fun _=>op')(h0:tE X.K X.mg (zb3 op op' f g h) σ H Q):zqa R R' (tE X.K X.mg f) (tE X.K X.mg g) (tE X.K X.mg h) σ H Q:=by
 obtain⟨ρ,ev,S,d,S',hE,hS,hf,k⟩:=h0;obtain⟨⟨x,S1⟩,q1,hf⟩:=zy hf;obtain⟨⟨y,S2⟩,q2,hf⟩:=zy hf;obtain⟨z,q3,hf⟩:=zy hf;refine⟨ρ,ev,S,x,S1,hE,hS,q1,fun v ρ1 H1 E1 hS1 r1=>⟨ρ1,ev,S1,y,S2,hE.mono E1,hS1,q2,fun u ρ2 H2 E2 hS2 r2=>?_⟩⟩;refine hs ρ2 H2 _ v u x y z _ hS2 (r1.mono E2) r2 q3 fun w H3 E3 hS3 r3=>?_;dsimp only at hf;split at hf
 · obtain⟨⟨t,S4⟩,q4,hf⟩:=zy hf;obtain⟨dd,q5,hf⟩:=zbf hf;cases hf;refine⟨true,r3,ρ2,ev,S2,t,S4,((hE.mono E1).mono E2).mono E3,hS3,q4,fun tv ρ4 H4 E4 hS4 r4=>?_⟩;exact hs' ρ4 H4 _ u tv y t _ _ hS4 ((r2.mono E3).mono E4) r4 q5 fun w' H5 E5 hS5 r5=>k w' ρ4 H5 ((((E1.trans E2).trans E3).trans E4).trans E5) hS5 r5
 · cases hf;exact⟨false,r3,k _ ρ2 H3 ((E1.trans E2).trans E3) hS3 rfl⟩
 · cases hf
theorem zm5{a b c:Expr}{f g h:E}{pos:Pos}(ha:FE X a f)(hb:FE X b g)(hc:FE X c h)(hm:lastMarks [.LtE,.Lt] [b,c]=false:=by with_unfolding_all rfl):FB X (.Compare a [.LtE,.Lt] [b,c] pos) (bE (zb3 zco zdb f g h)) :=
 zda (zoq zj5 zs1 ha hb hc hm) fun _ _ _ h=>zri (fun _ h=>zrj zaq zaq h) h
def zrn(r r' r2:R2)(ta tb tc td:TE):TE:=fun σ H Q=>ta σ H fun x H1=>tb σ H1 fun y H2=>r x y H2 fun z H3=>∃k,z=.bl k /\
 (if k=true then tc σ H3 fun w H4=>r' y w H4 fun z' H5=>∃k',z'=.bl k'/\(if k'=true then td σ H5 fun u H6=>r2 w u H6 Q else Q (.bl false) H5)else Q (.bl false) H3)
theorem zlu{a b c d:Expr}{ta tb tc td:TE}{op op' op2:CmpOp}{r r' r3:R2}(ho:OpR X (compareOp op) r)(ho':OpR X (compareOp op') r')(ho2:OpR X (compareOp op2) r3)(ha:PE X a ta)(hb:PE X b tb)(hc:PE X c tc)(hd:PE X d td)
   (hm:lastMarks [op,op',op2] [b,c,d]=false:=by with_unfolding_all rfl):PT X (.Compare a [op,op',op2] [b,c,d] pos) (zob (zrn r r' r3 ta tb tc td)):=by
 intro pins s σ H Q I h;refine isTrue_chain (thn (ha pins s σ H _ I h) fun v s1 ⟨x,H1,I1,r1,q1⟩=>test_link (thn (hb pins s1 σ H1 _ I1 q1) fun u s2 ⟨y,H2,I2,r2,q2⟩=>
   thn (ho pins s2 σ H2 x y v u _ I2 r1 r2 q2) fun d s3 ⟨z,H3,I3,r3,k,e,q3⟩=>?_)) hm
 subst e;cases r3;refine z3f ?_;cases k with
 | false=>
   obtain⟨k',e',q'⟩:=q3;cases e';exact ite_ff ⟨H3,I3,q'⟩
 | true=>
   refine ite_tt (test_link (thn (hc pins s3 σ H3 _ I3 q3) fun w' s4 ⟨z',H4,I4,r4,q4⟩=>thn (ho' pins s4 σ H4 y z' u w' _ I4 r2 r4 q4) fun d' s5 ⟨z2,H5,I5,r5,k2,e2,q5⟩=>?_));subst e2;cases r5;refine z3f ?_;cases k2 with
   | false=>
     obtain⟨k',e',q'⟩:=q5;cases e';exact ite_ff ⟨H5,I5,q'⟩
   | true=>
     refine ite_tt (test_last (thn (hd pins s5 σ H5 _ I5 q5) fun w2 s6 ⟨z6,H6,I6,r6,q6⟩=>thn (ho2 pins s6 σ H6 z' z6 w' w2 _ I6 r4 r6 q6) fun d6 s7 ⟨z7,H7,I7,r7,k7,e7,q7⟩=>?_));subst e7;cases r7;exact z3f ⟨H7,I7,q7⟩
theorem zm6{a b c d:Expr}{f g h i:E}{pos:Pos}(ha:FE X a f)(hb:FE X b g)(hc:FE X c h)(hd:FE X d i)(hm:lastMarks [.LtE,.LtE,.LtE] [b,c,d]=false:=by with_unfolding_all rfl):FB X (.Compare a [.LtE,.LtE,.LtE] [b,c,d] pos) (bE (zfo zco zco zco f g h i)) :=
 zda (zlu zj5 zj5 zj5 ha hb hc hd hm) fun σ H Q h=>zri (fun Q h0=>by
   obtain⟨ρ,ev,S,d,S',hE,hS,hf,k⟩:=h0;obtain⟨⟨x,S1⟩,q1,hf⟩:=zy hf;obtain⟨⟨y,S2⟩,q2,hf⟩:=zy hf;obtain⟨z,q3,hf⟩:=zy hf;refine⟨ρ,ev,S,x,S1,hE,hS,q1,fun v ρ1 H1 E1 hS1 r1=>⟨ρ1,ev,S1,y,S2,hE.mono E1,hS1,q2,fun u ρ2 H2 E2 hS2 r2=>?_⟩⟩;refine zaq ρ2 H2 _ v u x y z _ hS2 (r1.mono E2) r2 q3 fun w H3 E3 hS3 r3=>?_;dsimp only at hf;split at hf
   · obtain⟨⟨t,S4⟩,q4,hf⟩:=zy hf;obtain⟨dd,q5,hf⟩:=zy hf;refine⟨true,r3,ρ2,ev,S2,t,S4,((hE.mono E1).mono E2).mono E3,hS3,q4,fun tv ρ4 H4 E4 hS4 r4=>?_⟩;refine zaq ρ4 H4 _ u tv y t _ _ hS4 ((r2.mono E3).mono E4) r4 q5 fun w' H5 E5 hS5 r5=>?_;split at hf
     · obtain⟨⟨t6,S6⟩,q6,hf⟩:=zy hf;obtain⟨d7,q7,hf⟩:=zbf hf;cases hf;refine⟨true,r5,ρ4,ev,S4,t6,S6,((((hE.mono E1).mono E2).mono E3).mono E4).mono E5,hS5,q6,fun tv6 ρ6 H6 E6 hS6 r6=>?_⟩;exact zaq ρ6 H6 _ tv tv6 t t6 _ _ hS6 ((r4.mono E5).mono E6) r6 q7 fun w7 H7 E7 hS7 r7=>k w7 ρ6 H7 ((((((E1.trans E2).trans E3).trans E4).trans E5).trans E6).trans E7) hS7 r7
     · cases hf;exact⟨false,r5,k _ ρ4 H5 ((((E1.trans E2).trans E3).trans E4).trans E5) hS5 rfl⟩
     · cases hf
   · cases hf;exact⟨false,r3,k _ ρ2 H3 ((E1.trans E2).trans E3) hS3 rfl⟩
   · cases hf) h
end
mutual
def bnd(n:Nat):D->Bool
 | .obj i=>decide (i<n)
 | .tup ds=>bndL n ds
 | .lst ds=>bndL n ds
 | .clo _ ds=>bndL n ds
 |_=>true
def bndL(n:Nat):List D->Bool
 | []=>true
 |d::ds=>bnd n d&&bndL n ds
end
def zie(n:Nat):MO->Bool
 | .lst ds=>bndL n ds
 | .ins _ fs=>bndL n (fs.map (·.2))
 | .dct kvs=>bndL n (kvs.map (·.2))
 | .exc _=>true
 | .tab _ _=>true
 | .xd _ d=>bnd n d
 | .xc _ j=>decide (j<n)
def frz(g:G):G:=fun ds S=>(g ds S).bind fun r=>if(r.2.take S.length).all (zie S.length)=true then (match r.1 with
 | .obj i=>if i<S.length then some (.obj i,r.2.take S.length)else (match r.2[i]? with
   |some (.lst us)=>if bndL S.length us=true then some (.lst us,r.2.take S.length)else none
   |_=>none)
 |d=>if bnd S.length d=true then some (d,r.2.take S.length)else none)else none
section
variable {K:zFr}{mg:zMg}{ρ ρ':List Addr}{H H':Hp}{S S1:Sto}{n:Nat}
theorem TupAt.cut{p:Addr}{vs:List V}(h:TupAt K ρ H p vs):TupAt K (ρ.take n) H p vs:=h.imp (fun⟨a,b⟩=>⟨fun z=>a (z24 z),b⟩) id
theorem LstAt.cut{p:Addr}{vs:List V}(h:LstAt K ρ H p vs):LstAt K (ρ.take n) H p vs:=h.imp (fun⟨a,b⟩=>⟨fun z=>a (z24 z),b⟩) id
theorem Cells.cut:∀{xs:List Str}{us:List V}{cl:zLA},Cells ρ H xs us cl->Cells (ρ.take n) H xs us cl
 | [],[],[],_=>trivial
 |x::xs,u::us,p::cl,h=>⟨h.1,fun z=>h.2.1 (z24 z),h.2.2.1,Cells.cut h.2.2.2⟩
 | [],[],_::_,h=>h.elim
 | [],_::_,_,h=>h.elim
 |_::_,[],_,h=>h.elim
 |_::_,_::_,[],h=>h.elim
mutual
theorem Rep.cut:∀{d:D}{v:V},bnd n d=true->Rep K mg ρ H d v->Rep K mg (ρ.take n) H d v
 | .non,_,_,h=>h
 | .bl _,_,_,h=>h
 | .int _,_,_,h=>h
 | .str _,_,_,h=>h
 | .fn _,_,_,h=>h
 | .ty _,_,_,h=>h
 | .tup ds,_,hb,h=>by unfold Rep at h ⊢;unfold bnd at hb;obtain⟨p,vs,e1,t,r⟩:=h;exact⟨p,vs,e1,t.cut,RepL.cut hb r⟩
 | .lst ds,_,hb,h=>by unfold Rep at h ⊢;unfold bnd at hb;obtain⟨p,vs,e1,t,r⟩:=h;exact⟨p,vs,e1,t.cut,RepL.cut hb r⟩
 | .obj i,_,hb,h=>by unfold Rep at h ⊢;unfold bnd at hb;obtain⟨a,e1,e2⟩:=h;exact⟨a,e1,by rw[z3s (z5l hb)];exact e2⟩
 | .lam t,_,_,h=>by unfold Rep at h ⊢;obtain⟨a,e1,n1,c,pm,ct,n2,h1,h2⟩:=h;exact⟨a,e1,fun z=>n1 (z24 z),c,pm,ct,fun z=>n2 (z24 z),h1,h2⟩
 | .clo t vs,_,hb,h=>by unfold Rep at h ⊢;unfold bnd at hb;obtain⟨a,us,e1,⟨n1,c,pm,ct,cl,n2,h1,h2,h3,h4⟩,r⟩:=h;exact⟨a,us,e1,⟨fun z=>n1 (z24 z),c,pm,ct,cl,fun z=>n2 (z24 z),h1,h2,h3,h4.cut⟩,RepL.cut hb r⟩
theorem RepL.cut:∀{ds:List D}{vs:List V},bndL n ds=true->RepL K mg ρ H ds vs->RepL K mg (ρ.take n) H ds vs
 | [],_,_,h=>h
 | d::ds,_,hb,h=>by unfold RepL at h ⊢;unfold bndL at hb;obtain⟨v,r,e,h1,h2⟩:=h;obtain⟨b1,b2⟩:=Bool.and_eq_true_iff.mp hb;exact⟨v,r,e,Rep.cut b1 h1,RepL.cut b2 h2⟩
end
theorem MOk.cut{a:Addr}{m:MO}(hb:zie n m=true)(h:MOk K mg ρ H a m):MOk K mg (ρ.take n) H a m:=by
 cases m with
 |lst ds=>obtain⟨vs,h1,h2⟩:=h;exact⟨vs,h1,h2.cut hb⟩
 |ins c fs=>obtain⟨C,dx,vs,h0,h1,h2,h3⟩:=h;exact⟨C,dx,vs,h0,h1,h2,h3.cut hb⟩
 |dct kvs=>obtain⟨vs,h1,h2,h3⟩:=h;exact⟨vs,h1,h2,h3.cut hb⟩
 |exc c=>exact h
 |tab x q=>obtain⟨h0,ps,h1,h2,h3⟩:=h;exact⟨h0,ps,h1,h2,fun pos cv z=>let⟨c,z1,z2,z3⟩:=h3 pos cv z;⟨c,z1,fun y=>z2 (z24 y),z3⟩⟩
 |xd x d=>obtain⟨v,h1,h2⟩:=h;exact⟨v,h1,h2.cut hb⟩
 |xc c j=>obtain⟨C,dx,h1,h2,h3⟩:=h;exact⟨C,dx,h1,by rw[z3s (z5l hb)];exact h2,h3⟩
theorem StOk.cut(hS:StOk K mg ρ H S)(hb:(S.take n).all (zie n)=true):StOk K mg (ρ.take n) H (S.take n):=by
 refine⟨by rw[z2d,z2d,hS.len],hS.nd.sublist (List.take_sublist _ _),fun i m a e1 e2=>?_⟩;have hi:i<n:=by have:=(z15.mp e1).1;rw[z2d]at this;omega
 have hm:m∈S.take n:=z4c e1;rw[z3s hi]at e1 e2;exact(hS.ob i m a e1 e2).cut (z2p.mp hb m hm)
theorem Ext.cut(e:Ext ρ H ρ' H')(hn:ρ.length=n):Ext ρ H (ρ'.take n) H' :=
 ⟨fun i a h=>by rw[z3s (by rw[<-hn];exact(z15.mp h).1)];exact e.pre i a h,e.keep,fun b hb=>e.new b (z24 hb)⟩
theorem zw4{g:G}(vs:List V)(H:Hp)(Q:VK)(E:XK)(h:spG K mg (frz g) vs H Q E):spG K mg g vs H Q E:=by
 obtain⟨ρ,ds,S,d,S',hr,hS,hf,k⟩:=h;obtain⟨⟨d1,S1⟩,q1,hf⟩:=zy hf;refine⟨ρ,ds,S,d1,S1,hr,hS,q1,fun v ρ' H' E1 hS1 r1=>?_⟩;dsimp only at hf;split at hf
 · rename_i hb;have e0:=E1.cut hS.len;have s0:=hS1.cut hb;split at hf
   · rename_i i;split at hf
     · rename_i hi;cases hf;exact k v _ H' e0 s0 (r1.cut (by unfold bnd;exact z2g hi))
     · rename_i hi;split at hf
       · rename_i us eu;split at hf
         · rename_i hu;cases hf;unfold Rep at r1;obtain⟨a,rfl,ea⟩:=r1;obtain⟨ws,m1,m2⟩:=hS1.ob i _ a eu ea;refine k _ _ H' e0 s0 ?_;unfold Rep;refine⟨a,ws,rfl,.inl ⟨fun z=>?_,.inl m1⟩,m2.cut hu⟩;obtain⟨j,hj,ej⟩:=List.getElem_of_mem z;rw[z2d]at hj;rw[List.getElem_take]at ej;have hj2:j<ρ'.length:=by omega
           have e3:ρ'[j]? = ρ'[i]?:=by rw[ea,z19 hj2,ej]
           have:=(List.getElem?_inj hj2 hS1.nd).mp e3;omega
         · cases hf
       · cases hf
   · split at hf
     · rename_i hd;cases hf;exact k v _ H' e0 s0 (r1.cut hd)
     · cases hf
 · cases hf
end
theorem Cal.frz{P:Program}{w:World}{K:zFr}{mg:zMg}{base:Heap}{k:Nat}{x:Str}{g:G}(c:Cal P w K mg base k x g):Cal P w K mg base k x (frz g):=by obtain⟨f,fd,ps,ds,dvs,dds,gg,FF,hm,hk,hb,hd,hdd,hg⟩:=c.ex;refine⟨f,fd,ps,ds,dvs,dds,_root_.F.frz gg,FnOk.imp FF zw4,hm,hk,hb,hd,hdd,fun args S r e=>?_⟩;obtain⟨r0,q,e⟩:=zy e;show(gg (args++dds) S).bind _=_;rw[hg args S r0 q];exact e
end F
namespace F
open PySem L2 PySem.Spec PyProof.Rows
section
variable {K:zFr}{mg:zMg}{ρ:List Addr}{H:Hp}{S:Sto}
variable {X:Cx}{a b e o i:Expr}{f g h:E}{pos:Pos}
theorem RepL.dropLast{ds:List D}{vs:List V}(r:RepL K mg ρ H ds vs):RepL K mg ρ H ds.dropLast vs.dropLast:=by rw[List.dropLast_eq_take,List.dropLast_eq_take,<-r.length];exact r.take _
end
structure Fly (h₀ h:Heap) (H:Hp) (a C:Addr) (dx:Option Addr):Prop where
 new:h₀.get? a=none
 un:H a=none
 tr:∃oe vs T oT ts,h.get? a=some oe/\oe.cls=.ref C/\oe.dict=dx/\oe.data=.fields vs/\vs[1]? = some (.ref T)/\h₀.get? T=none/\H T=none/\T≠a/\h.get? T=some oT/\oT.data=.fields ts/\ts[3]? = some .none
structure Born (h₀ h:Heap) (H:Hp) (a C:Addr) (dx:Option Addr):Prop where
 new:h₀.get? a=none
 un:H a=none
 tr:∃oe vs,h.get? a=some oe/\oe.cls=.ref C/\oe.dict=dx/\oe.data=.fields vs/\vs[1]? = some .none
def zki:Option Addr->Value
 |none=>.none
 |some d=>.ref d
structure Lft (fs:List Addr) (h₀:Heap) (H:Hp) (a C:Addr) (h h':Heap):Prop where
 keep:∀b o,h.get? b=some o->b∉fs->(∃o',h₀.get? b=some o')\/(∃u,H b=some u)->h'.get? b=some o
 slot:∀b o,h.get? b=some o->b∈fs->∃sl,h'.get? b=some { o with slots:=sl }
theorem none_of{h₀ h:Heap}{b:Addr}(k:∀b o,h₀.get? b=some o->∃o',h.get? b=some o')(e:h.get? b=none):h₀.get? b=none:=by
 cases q:h₀.get? b with
 |none=>rfl
 |some o=>obtain⟨o',z⟩:=k b o q;rw[e]at z;cases z
theorem zo4{H:Hp}{h:Heap}{b:Addr}(k:∀b u,H b=some u->∃o,h.get? b=some o)(e:h.get? b=none):H b=none:=by
 cases q:H b with
 |none=>rfl
 |some o=>obtain⟨o',z⟩:=k b o q;rw[e]at z;cases z
section
variable {M:Model}{A:Around}{E:zVP}{s:Shared}
theorem zjk(o:Obj)(f):(Obj.mapFields f o).dict=o.dict:=by obtain⟨c,d,dt,sl⟩:=o;cases dt<;>rfl
theorem zi5{h base:Heap}{l:List Env}{a:Addr}{o:Obj}{vs:Array Value}(st:h.FunFrames base l)(ea:h.get? a=some o)(da:o.data=.fields vs):a∉frs l:=fun m=>by obtain⟨_,o2,e2,n⟩:=st.mem m;rw[ea]at e2;cases e2;exact n vs da
theorem zgk{base:Heap}{env:Env}{outer:List Env}{L a:Addr}{oe:Obj}{vs:Array Value}{hd:Value}{bb:Bool}{Q:Unit->Shared->Prop}
   (fr:A.frames=some (env::outer)) (st:s.heap.FunFrames base (env::outer)) (fl:env.frame=some L) (ea:s.heap.get? a=some oe) (da:oe.data=.fields vs) (lt:1<vs.size)
   (q:∀h' T oT ts,s.heap.get? T=none->T≠a->(∀b o,s.heap.get? b=some o->b≠a->b∉frs (env::outer)->h'.get? b=some o)->(∀b o,s.heap.get? b=some o->b≠a->∃sl,h'.get? b=some { o with slots:=sl }) ->
     h'.get? a=some (Obj.mapFields (·.setIfInBounds 1 (.ref T)) oe)->h'.get? T=some oT->oT.data=.fields ts->ts[3]? = some .none->Q () { s with heap:=h' }) :
   wpAny M A (do
     let x <-frameOf env
     let pl <-entryPlaceOf L bb
     let y <-EntryCells.newEntry hd x .none (rawInt L) .none pl
     setField (.ref a) 1 y) (fun _ s'=>wpAny M A (setFlight (.ref a) none) Q E s') E s:=by
 have na:=zi5 st ea da;refine z12 (wpAny_frameOf_fun fr st fl fun g so=>z12 (wpAny_entryPlaceOf fun pl hp=>?_));unfold EntryCells.newEntry newFields;refine z12 (z34 ?_ (hp.sizeOk5 _ _ _ _ _));have e1:g.get? a=some oe:=(so.2.1 a na).trans ea;generalize hOT:({ cls:=.type "traceback",dict:=none,data:=.fields ([hd,.ref L,.none,rawInt L,.none]++(if pl.isEmpty then List.replicate 6 Value.none else pl)).toArray }:Obj)=OT;have dT:OT.data=.fields ([hd,.ref L,.none,rawInt L,.none]++(if pl.isEmpty then List.replicate 6 Value.none else pl)).toArray:=by rw[<-hOT]
 have fT:OT.isFreed=false:=z3z dT;have t3:3<([hd,.ref L,.none,rawInt L,.none]++(if pl.isEmpty then List.replicate 6 Value.none else pl)).toArray.size:=by simp only[z17,z13,List.length_cons,List.length_nil];omega
 have e2:=z14 OT e1;have ne:g.objs.size≠a:=z5d (z2c e1);refine z5j e2 da lt ?_;have d3:=z3i da (·.setIfInBounds 1 (Value.ref g.objs.size));have e3:=z27 (Obj.mapFields (·.setIfInBounds 1 (Value.ref g.objs.size))) e2 (z3z d3);have eT:=(z2m (g.push OT) (Obj.mapFields (·.setIfInBounds 1 (Value.ref g.objs.size))) (z26 ne)).trans (z2q g fT);have f1:(vs.setIfInBounds 1 (Value.ref g.objs.size))[1]? = some (.ref g.objs.size):=by simp[lt]
 unfold setFlight;refine z12 (z4g e3 d3 f1 ?_);rw[z2v (by simp)];refine z5j eT dT t3 ?_;refine q _ g.objs.size _ _ ?_ ne (fun b o eb nb nf=>?_) (fun b o eb nb=>?_) ?_ (z27 _ eT (z3z (z3i dT _))) (z3i dT _) ?_
 · refine z3j ?_;rw[so.1];exact z16 _
 · have eg:g.get? b=some o:=(so.2.1 b nf).trans eb;rw[z2m _ _ (z5d (z2c eg)),z2m _ _ (z26 nb)];exact z14 _ eg
 · obtain⟨sl,eg⟩:=so.2.2 b o eb;refine⟨sl,?_⟩;rw[z2m _ _ (z5d (z2c eg)),z2m _ _ (z26 nb)];exact z14 _ eg
 · rw[z2m _ _ ne];exact e3
 · simp[t3]
theorem zem{base h₀:Heap}{H:Hp}{env:Env}{outer:List Env}{L a C:Addr}{dx:Option Addr}{Q:Unit->Shared->Prop}(hfr:A.frames=some (env::outer))(hl:s.heap.FunFrames base (env::outer))(hf:env.frame=some L)(fl:Fly h₀ s.heap H a C dx)
   (hH:∀b u,H b=some u->∃o,s.heap.get? b=some o) (h0:∀b o,h₀.get? b=some o->∃o',s.heap.get? b=some o')
   (h:∀h',Fly h₀ h' H a C dx->Lft (frs (env::outer)) h₀ H a C s.heap h'->h'.FunFrames base (env::outer)->Q () { s with heap:=h' }):wpAny M A (leaving env (.ref a)) Q E s:=by
 obtain⟨oe,vs,T,oT,ts,ea,ca,xa,da,v1,nT0,nTH,nTa,eT,dT,t3⟩:=fl.tr;have l3:3<ts.size:=(z29.mp t3).1;unfold leaving noteFrame;simp only[hf];refine z12 (z12 (z4g ea da v1 ?_));rw[z2v (by simp)];refine z12 (z4g eT dT t3 ?_);rw[z2w (by simp[rawInt])];refine z12 (z5j eT dT l3 ?_);have oth:∀b,b≠T->(s.heap.update T (Obj.mapFields (·.setIfInBounds 3 Value.none))).get? b=s.heap.get? b:=fun b hb=>z2m _ _ (z26 hb);have nfT:=zi5 hl eT dT;have st2:(s.heap.update T (Obj.mapFields (·.setIfInBounds 3 Value.none))).FunFrames base (env::outer):=hl.of_keeps fun b o e hnf=>⟨o,(oth b fun z=>by subst z;rw[eT]at e;cases e;exact hnf _ dT).trans e,rfl⟩
 refine zgk (s:={ s with heap:=s.heap.update T (Obj.mapFields (·.setIfInBounds 3 Value.none)) }) hfr st2 hf ((oth a (z26 nTa)).trans ea) da (z29.mp v1).1 fun h' T' oT' ts' n1 n2 k1 k2 ea' eT' dT' t3'=>?_;have nT':s.heap.get? T'=none:=by
   by_cases z:T'=T
   · subst z;have y:(s.heap.update T' (Obj.mapFields (·.setIfInBounds 3 Value.none))).get? T'=some _:=z27 _ eT (z3z (z3i dT _));rw[show(s.heap.update T' (Obj.mapFields (·.setIfInBounds 3 Value.none))).get? T'=none from n1]at y;cases y
   · rw[<-oth T' z];exact n1
 refine h h' ⟨fl.new,fl.un,_,_,T',oT',ts',ea',(Obj.cls_mapFields _ _).trans ca,(zjk _ _).trans xa,z3i da _,by simp[(z29.mp v1).1],none_of h0 nT',zo4 hH nT',n2,eT',dT',t3'⟩ ⟨fun b o e nb hb=>?_,fun b o e hb=>?_⟩ (hl.of_keeps fun b o e hnf=>?_)
 · have na:b≠a:=fun z=>by
     subst z;rcases hb with⟨_,hb⟩ | ⟨_,hb⟩
     · rw[fl.new]at hb;cases hb
     · rw[fl.un]at hb;cases hb
   have nT:b≠T:=fun z=>by
     subst z;rcases hb with⟨_,hb⟩ | ⟨_,hb⟩
     · rw[nT0]at hb;cases hb
     · rw[nTH]at hb;cases hb
   exact k1 b o ((oth b nT).trans e) na nb
 · have na:b≠a:=fun z=>zi5 hl ea da (z▸hb);have nT:b≠T:=fun z=>nfT (z▸hb);exact k2 b o ((oth b nT).trans e) na
 · have na:b≠a:=fun z=>by subst z;rw[ea]at e;cases e;exact hnf _ da
   have nT:b≠T:=fun z=>by subst z;rw[eT]at e;cases e;exact hnf _ dT
   obtain⟨sl,e'⟩:=k2 b o ((oth b nT).trans e) na;exact⟨_,e',rfl⟩
theorem zdg{base h₀:Heap}{H:Hp}{env:Env}{outer:List Env}{L a C:Addr}{dx:Option Addr}{Q:Unit->Shared->Prop}(hfr:A.frames=some (env::outer))(hl:s.heap.FunFrames base (env::outer))(hf:env.frame=some L)(bn:Born h₀ s.heap H a C dx)
   (hH:∀b u,H b=some u->∃o,s.heap.get? b=some o) (h0:∀b o,h₀.get? b=some o->∃o',s.heap.get? b=some o')
   (h:∀h',Fly h₀ h' H a C dx->Lft (frs (env::outer)) h₀ H a C s.heap h'->h'.FunFrames base (env::outer)->Q () { s with heap:=h' }):wpAny M A (leaving env (.ref a)) Q E s:=by
 obtain⟨oe,vs,ea,ca,xa,da,v1⟩:=bn.tr;unfold leaving noteFrame;simp only[hf];refine z12 (z12 (z4g ea da v1 ?_));rw[z2w (by decide)];refine zgk hfr hl hf ea da (z29.mp v1).1 fun h' T' oT' ts' nT' n2 k1 k2 ea' eT' dT' t3'=>?_;refine h h' ⟨bn.new,bn.un,_,_,T',oT',ts',ea',(Obj.cls_mapFields _ _).trans ca,(zjk _ _).trans xa,z3i da _,by simp[(z29.mp v1).1],none_of h0 nT',zo4 hH nT',n2,eT',dT',t3'⟩ ⟨fun b o e nb hb=>?_,fun b o e hb=>?_⟩ (hl.of_keeps fun b o e hnf=>?_)
 · refine k1 b o e (fun z=>?_) nb;subst z;rcases hb with⟨_,hb⟩ | ⟨_,hb⟩
   · rw[bn.new]at hb;cases hb
   · rw[bn.un]at hb;cases hb
 · exact k2 b o e fun z=>zi5 hl ea da (z▸hb)
 · obtain⟨sl,e'⟩:=k2 b o e fun z=>by subst z;rw[ea]at e;cases e;exact hnf _ da
   exact⟨_,e',rfl⟩
end
def CX1(P:Program)(w:World):CXT:=fun outer H s E e s'=>
 ∃a C dx H',e=.ref a/\s'.os=s.os/\AllBare s'.gens/\Un (frs outer) [] H H' s.heap s'.heap/\HOk P w H' s'.heap/\Fly s.heap s'.heap H' a C dx/\E (zki dx) (some C) H'
section
variable {X:Cx}{pins:zAO}{σ:L2.St}{H:Hp}{s:Shared}
theorem Fly.back{h₀ h₁ h:Heap}{a C:Addr}{dx:Option Addr}(f:Fly h₁ h H a C dx)(k:∀b o,h₀.get? b=some o->∃o',h₁.get? b=some o'):Fly h₀ h H a C dx:=by obtain⟨oe,vs,T,oT,ts,r1,r2,r2',r3,r4,r5,r6⟩:=f.tr;exact⟨none_of k f.new,f.un,oe,vs,T,oT,ts,r1,r2,r2',r3,r4,none_of k r5,r6⟩
theorem Born.back{h₀ h₁ h:Heap}{a C:Addr}{dx:Option Addr}(f:Born h₁ h H a C dx)(k:∀b o,h₀.get? b=some o->∃o',h₁.get? b=some o'):Born h₀ h H a C dx:=⟨none_of k f.new,f.un,f.tr⟩
theorem zkr{fs:List Addr}{H₀:Hp}{L a C:Addr}{h₀ h h':Heap}(u:Un fs [] H₀ H h₀ h)(l:Lft (L::fs) h₀ H a C h h')(hL:h₀.get? L=none):Un fs [] H₀ H h₀ h' where
 keep:=fun b o e n nb hx=>l.keep b o (u.keep b o e n nb hx) (fun z=>(z2l.mp z).elim (fun z=>by rw[z,hL]at e;cases e) nb) (.inl ⟨_,e⟩)
 slot:=fun b o e n nb hx=>by obtain⟨sl,q⟩:=u.slot b o e n nb hx;obtain⟨sl',q'⟩:=l.slot b _ q (z2e _ nb);exact⟨sl',q'⟩
 free:=u.free
 there:=fun b o e hx=>by
   obtain⟨o',q⟩:=u.there b o e hx;by_cases z:b∈L::fs
   · obtain⟨sl,q'⟩:=l.slot b _ q z;exact⟨_,q'⟩
   · exact⟨_,l.keep b _ q z (.inl ⟨_,e⟩)⟩
 tups:=u.tups
 frzs:=u.frzs
 tbls:=u.tbls
theorem za5{P:Program}{w:World}{h:Heap}{a:Addr}{o:HO}(x:ObjOk P w H h a o):∃q,h.get? a=some q:=by
 cases o with
 |lst xs=>obtain⟨_,_,_,_,e⟩:=x;exact⟨_,e⟩
 |tup xs=>obtain⟨_,_,_,p⟩:=x;obtain⟨o,e,_⟩:=p;exact⟨_,e⟩
 |dK kvs=>obtain⟨_,_,_,_,o,_,_,e,_⟩:=x;exact⟨_,e⟩
 |dT kvs=>obtain⟨_,_,_,_,o,_,_,e,_⟩:=x;exact⟨_,e⟩
 |set S n=>obtain⟨o,_,_,_,e,_⟩:=x;exact⟨_,e⟩
 |ins C dx fs=>obtain⟨_,_,_,e,_⟩:=x;exact⟨_,e⟩
 |own y=>obtain⟨_,e⟩:=x;exact⟨_,e⟩
 |xd fs=>obtain⟨_,⟨_,_,_,e,_⟩,_⟩:=x;exact⟨_,e⟩
 |rng lo hi=>obtain⟨_,_,_,e⟩:=x;exact⟨_,e⟩
 |frz ob u=>obtain⟨e,_⟩:=x;exact⟨_,e⟩
 |tbl ps=>exact⟨_,(show h.get? a=some _ from x)⟩
 |met f y=>exact⟨_,(show h.get? a=some _ from x)⟩
 |ext φ=>obtain⟨_,⟨_,e⟩,_⟩:=x;exact⟨_,e⟩
theorem zbt{P:Program}{w:World}{fs:List Addr}{a C:Addr}{h₀ h h':Heap}(ok:HOk P w H h)(l:Lft fs h₀ H a C h h')(hf:∀b∈fs,H b=none):HOk P w H h':=fun b u e=>
 (ok b u e).stay (fun c v hc r=>by
   have ht:∃z,H c=some z:=by
     rcases hc with rfl | hc
     · exact⟨_,e⟩
     · exact⟨_,hc⟩
   obtain⟨z,hz⟩:=ht;exact l.keep c v r (fun m=>by rw[hf c m]at hz;cases hz) (.inr ⟨z,hz⟩)) (fun c r=>r) fun c xs r=>r
theorem zrd{P:Program}{w:World}{K:zFr}{mg:zMg}{base:Heap}{N:List Str}{qual:Str}{scope:Scope}{f:Addr}{cd:Value}{A:Around}{outer:List Env}{s₀:Shared}{H₀:Hp}{E:XK}{a C:Addr}{dx:Option Addr}
   (I:Inv (zd8 (CX1 P w) P w K mg base N qual scope f cd A outer s₀ H₀ E) pins σ H s) (fl:Fly s₀.heap s.heap H a C dx) (hE:E (zki dx) (some C) H):(zd8 (CX1 P w) P w K mg base N qual scope f cd A outer s₀ H₀ E).xe (.ref a) s:=by
 have hfs:∀b∈frs (envOfC qual scope s₀.heap.objs.size f cd::outer),H b=none:=I.stkFree;refine zem (base:=base) (h₀:=s₀.heap) (H:=H) (L:=s₀.heap.objs.size) I.ok.frames I.stack rfl fl (fun b u e=>za5 (I.hok b u e)) (fun b o e=>I.base.there b o e (by show b∉([]:List Addr);simp)) fun h' f1 l1 _=>?_;have l2:Lft (s₀.heap.objs.size::frs outer) s₀.heap H a C s.heap h':=l1;exact⟨a,C,dx,H,rfl,I.os,I.bare,zkr I.base l2 (z3j (z16 _)),zbt I.hok l1 hfs,f1,hE⟩
theorem zn5{P:Program}{w:World}{K:zFr}{mg:zMg}{base:Heap}{N:List Str}{qual:Str}{scope:Scope}{f:Addr}{cd:Value}{A:Around}{outer:List Env}{s₀:Shared}{H₀:Hp}{E:XK}{a C:Addr}{dx:Option Addr}
   (I:Inv (zd8 (CX1 P w) P w K mg base N qual scope f cd A outer s₀ H₀ E) pins σ H s) (bn:Born s₀.heap s.heap H a C dx) (hE:E (zki dx) (some C) H):(zd8 (CX1 P w) P w K mg base N qual scope f cd A outer s₀ H₀ E).xe (.ref a) s:=by
 have hfs:∀b∈frs (envOfC qual scope s₀.heap.objs.size f cd::outer),H b=none:=I.stkFree;refine zdg (base:=base) (h₀:=s₀.heap) (H:=H) (L:=s₀.heap.objs.size) I.ok.frames I.stack rfl bn (fun b u e=>za5 (I.hok b u e)) (fun b o e=>I.base.there b o e (by show b∉([]:List Addr);simp)) fun h' f1 l1 _=>?_;have l2:Lft (s₀.heap.objs.size::frs outer) s₀.heap H a C s.heap h':=l1;exact⟨a,C,dx,H,rfl,I.os,I.bare,zkr I.base l2 (z3j (z16 _)),zbt I.hok l1 hfs,f1,hE⟩
theorem zzh{P:Program}{w:World}{K:zFr}{mg:zMg}{base:Heap}{N:List Str}{qual:Str}{scope:Scope}{f:Addr}{cd:Value}{A:Around}{outer:List Env}{s₀:Shared}{H₀:Hp}{E:XK} :
   zb6 (CX1 P w) (zd8 (CX1 P w) P w K mg base N qual scope f cd A outer s₀ H₀ E) E:=fun pins σ H s e s' I h=>by
 obtain⟨a,C,dx,H',rfl,os,bare,un,hok,fl,hE⟩:=h;have I1:Inv (zd8 (CX1 P w) P w K mg base N qual scope f cd A outer s₀ H₀ E) pins σ H' s':=I.call' os un hok bare fun b hb=>absurd hb (by simp);exact zrd I1 (fl.back fun b o e=>I.base.there b o e (by show b∉([]:List Addr);simp)) hE
end
def zx3(c:Str)(S:Sto)(ρ:List Addr)(e:Value):Prop:=c="Changed"->∃a n d,e=.ref a/\ρ.getLast? = some a/\S.getLast? = some (.xd n d)
abbrev R:=Ev->Sto->Option (Str×Sto)
def zvj(c:C)(r:R):R:=fun ev S=>(c ev S).bind fun p=>match p.1 with
 | .nx e=>r e p.2
 |_=>none
def rIf(u:B)(a b:R):R:=fun ev S=>(u ev S).bind fun p=>if p.1=true then a ev p.2 else b ev p.2
def zoo:R:=fun _ _=>none
section
variable (K:zFr) (mg:zMg)
def tR(r:R)(σ:L2.St)(H:Hp)(E:XK):Prop:=∃ρ ev S c S',EnvR K mg ρ H ev σ/\StOk K mg ρ H S/\r ev S=some (c,S')/\∃C,mg c=some (.ref C)/\∀e ρ' H',Ext ρ H ρ' H'->StOk K mg ρ' H' S'->zx3 c S' ρ' e->E e (some C) H'
end
def rOr(a b:R):R:=fun ev S=>(a ev S).or (b ev S)
theorem zyo{K mg}{r1 r2:R}{σ:L2.St}{H:Hp}{E:XK}(h:tR K mg (rOr r1 r2) σ H E):tR K mg r1 σ H E\/tR K mg r2 σ H E:=by
 obtain⟨ρ,ev,S,c,S',hE,hS,hf,k⟩:=h;unfold rOr at hf;cases q:r1 ev S with
 |none=>rw[q]at hf;exact .inr ⟨ρ,ev,S,c,S',hE,hS,hf,k⟩
 |some p=>rw[q]at hf;cases hf;exact .inl ⟨ρ,ev,S,c,S',hE,hS,q,k⟩
structure XE (X:Cx) (pins:zAO) (σ:L2.St) (E:XK):Prop where
 first:∀{H s a C dx H' s'},Inv X pins σ H s->s'.os=s.os->AllBare s'.gens->Un (frs X.stack) [] H H' s.heap s'.heap->HOk X.prog X.w H' s'.heap->Born s.heap s'.heap H' a C dx->E (zki dx) (some C) H'->X.xe (.ref a) s'
 pass:∀{H s e s'},Inv X pins σ H s->CX1 X.prog X.w X.stack H s E e s'->X.xe e s'
def RS(X:Cx)(st:Stmt)(r:R):Prop:=∀(pins:zAO) (s:Shared) (σ:L2.St) (H:Hp) (E:XK) (Q:Flow->Shared->Prop),XE X pins σ E->Inv X pins σ H s->tR X.K X.mg r σ H E->wpAny (model X.prog X.w) X.A (exec st X.env) Q X.xe s
def RSs(X:Cx)(sts:List Stmt)(r:R):Prop:=∀(pins:zAO) (s:Shared) (σ:L2.St) (H:Hp) (E:XK) (Q:Flow->Shared->Prop),(∀σ,XE X pins σ E)->Inv X pins σ H s->tR X.K X.mg r σ H E->wpAny (model X.prog X.w) X.A (execs sts X.env) Q X.xe s
def RTs(X:Cx)(sts:List Stmt)(r:R):Prop:=∀(pins:zAO) (s:Shared) (σ:L2.St) (H:Hp) (E:XK) (Q:Flow->Shared->Prop),XE X pins σ E->Inv X pins σ H s->tR X.K X.mg r σ H E->wpAny (model X.prog X.w) X.A (execs sts X.env) Q X.xe s
def RE(X:Cx)(e:Expr)(r:R):Prop:=∀(pins:zAO) (s:Shared) (σ:L2.St) (H:Hp) (E:XK) (Q:zVP),XE X pins σ E->Inv X pins σ H s->tR X.K X.mg r σ H E->wpAny (model X.prog X.w) X.A (eval e X.env) Q X.xe s
section
variable {X:Cx}{st:Stmt}{rest a b:List Stmt}{c:C}{u:B}{r r':R}{e:Expr}{es:List Expr}{pos p:Pos}
theorem y4(h:RS X st r):RSs X (st::rest) r:=fun pins s σ H E Q hx I t=>z3t (h pins s σ H E _ (hx σ) I t)
theorem zcu(h:RS X st r):RTs X (st::rest) r:=fun pins s σ H E Q hx I t=>z3t (h pins s σ H E _ hx I t)
theorem zve{r1 r2:R}(h1:RSs X rest r1)(h2:RSs X rest r2):RSs X rest (rOr r1 r2):=fun pins s σ H E Q hx I t=>by
 rcases zyo t with t | t
 · exact h1 pins s σ H E Q hx I t
 · exact h2 pins s σ H E Q hx I t
theorem ziw(h1:FS X st c)(h2:RSs X rest r):RSs X (st::rest) (zvj c r):=by
 intro pins s σ H E Q hx I t;obtain⟨ρ,ev,S,nm,S',hE,hS,hf,C,hC,k⟩:=t;obtain⟨⟨o,S1⟩,q1,hf⟩:=zy hf;cases o with
 | nx e1=>
   refine z3t (thn (h1 pins s σ H { nx:=fun σ' H'=>tR X.K X.mg r σ' H' E,rt:=fun _ _=>False,bk:=fun _ _=>False,ct:=fun _ _=>False } I ⟨ρ,ev,S,.nx e1,S1,hE,hS,q1,fun σ' ρ' H' E1 hS1 hE1=>⟨ρ',e1,S1,nm,S',hE1,hS1,hf,C,hC,fun e ρ2 H2 E2 hS2=>k e ρ2 H2 (E1.trans E2) hS2⟩⟩) fun f s1 q=>?_);cases f with
   | next=>
     obtain⟨σ',H',I',q⟩:=q;exact h2 pins s1 σ' H' E Q hx I' q
   |ret v=>obtain⟨_,_,_,_,_,q⟩:=q;exact q.elim
   |brk=>obtain⟨_,_,_,q⟩:=q;exact q.elim
   |cont=>obtain⟨_,_,_,q⟩:=q;exact q.elim
 |_=>cases hf
theorem zy1{cc:Expr}(hc:FB X cc u)(ha:RTs X a r)(hb:RTs X b r'):RS X (.If cc a b pos) (rIf u r r'):=by
 intro pins s σ H E Q hx I t;obtain⟨ρ,ev,S,nm,S',hE,hS,hf,C,hC,k⟩:=t;obtain⟨⟨d,S1⟩,q1,hf⟩:=zy hf;refine wpAny_If (thn (hc pins s σ H (fun d' H1=>d'=d/\∃ρ1,Ext ρ H ρ1 H1/\StOk X.K X.mg ρ1 H1 S1) I ⟨ρ,ev,S,d,S1,hE,hS,q1,fun ρ1 H1 E1 hS1=>⟨rfl,ρ1,E1,hS1⟩⟩) fun d' s1 ⟨H1,I1,ed,ρ1,E1,hS1⟩=>?_);subst ed;cases d' with
 |true=>exact ha pins s1 σ H1 E Q hx I1 ⟨ρ1,ev,S1,nm,S',hE.mono E1,hS1,hf,C,hC,fun e ρ2 H2 E2 hS2=>k e ρ2 H2 (E1.trans E2) hS2⟩
 |false=>exact hb pins s1 σ H1 E Q hx I1 ⟨ρ1,ev,S1,nm,S',hE.mono E1,hS1,hf,C,hC,fun e ρ2 H2 E2 hS2=>k e ρ2 H2 (E1.trans E2) hS2⟩
theorem zll{cc:Expr}(hc:FB X cc u)(ha:RSs X a r)(hb:RSs X b r'):RSs X (.If cc a b pos::rest) (rIf u r r'):=by
 intro pins s σ H E Q hx I t;obtain⟨ρ,ev,S,nm,S',hE,hS,hf,C,hC,k⟩:=t;obtain⟨⟨d,S1⟩,q1,hf⟩:=zy hf;refine z3t (wpAny_If (thn (hc pins s σ H (fun d' H1=>d'=d/\∃ρ1,Ext ρ H ρ1 H1/\StOk X.K X.mg ρ1 H1 S1) I ⟨ρ,ev,S,d,S1,hE,hS,q1,fun ρ1 H1 E1 hS1=>⟨rfl,ρ1,E1,hS1⟩⟩) fun d' s1 ⟨H1,I1,ed,ρ1,E1,hS1⟩=>?_));subst ed;cases d' with
 |true=>exact ha pins s1 σ H1 E _ hx I1 ⟨ρ1,ev,S1,nm,S',hE.mono E1,hS1,hf,C,hC,fun e ρ2 H2 E2 hS2=>k e ρ2 H2 (E1.trans E2) hS2⟩
 |false=>exact hb pins s1 σ H1 E _ hx I1 ⟨ρ1,ev,S1,nm,S',hE.mono E1,hS1,hf,C,hC,fun e ρ2 H2 E2 hS2=>k e ρ2 H2 (E1.trans E2) hS2⟩
theorem ze4:RSs X rest zoo:=fun pins s σ H E Q hx I t=>by obtain⟨ρ,ev,S,nm,S',hE,hS,hf,_⟩:=t;cases hf
theorem zht(he:RE X e r)(hs:swapsWith e none pos.line X.env=pure false:=by rfl):RS X (.Expr e pos) r:=fun pins s σ H E Q hx I t=>wpAny_Expr_any (he pins s σ H E _ hx I t) I.quiet hs
end
abbrev GR:=List D->Sto->Option (Str×Sto)
def spR(K:zFr)(mg:zMg)(rr:GR):Sp:=fun vs H _ E=>∃ρ ds S c S',RepL K mg ρ H ds vs/\StOk K mg ρ H S/\rr ds S=some (c,S')/\∃C,mg c=some (.ref C)/\∀e ρ' H',Ext ρ H ρ' H'->StOk K mg ρ' H' S'->zx3 c S' ρ' e->E e (some C) H'
structure RCal (P:Program) (w:World) (K:zFr) (mg:zMg) (base:Heap) (k:Nat) (x:Str) (g:GR):Prop where
 ex:∃(f:Addr) (fd:FuncData) (ps:List Str) (ds:List Value) (dvs:List V) (dds:List D) (gg:GR),FnOk P w K mg base (CX1 P w) k f fd ps (spR K mg gg)/\mg x=some (.ref f)/\PySem.W.keepIn K (.ref f)=true /\
   Binds K fd ps ds/\Vals dvs ds/\(∀ρ H,RepL K mg ρ H dds dvs)/\∀args S r,g args S=some r->gg (args++dds) S=some r
def zls(g:GR)(a:As):R:=fun ev S=>(a ev S).bind fun q=>g q.1 q.2
theorem zy0{X:Cx}{CX:CXT}{k:Nat}{f:Addr}{fd:FuncData}{ps:List Str}{sp:Sp}{dvs:List V}{ds:List Value}{E:XK}{pins:zAO}{σ:L2.St}{H:Hp}{s:Shared}{Q:VK}{us:List Value}{vs:List V}
   (F:FnOk X.prog X.w X.K X.mg X.base CX k f fd ps sp) (hr:Room k X.A) (hb:Binds X.K fd ps ds) (hd:Vals dvs ds) (I:Inv X pins σ H s) (hx:∀e s',CX X.stack H s E e s'->X.xe e s') (r:Vals vs us) (h:sp (vs++dvs) H Q E) :
   wpAny (model X.prog X.w) X.A (call (.ref f) us) (EP X pins σ Q) X.xe s:=by
 have r2:=r.append hd;have hl:(us++ds).length=ps.length:=r2.length.symm.trans (F.len _ _ _ _ h);refine z4i (z4x (F.run X.A X.stack s H ⟨us,[]⟩ _ _ Q E hr I.env0 (hb s us I.kIn hl) r2 h) fun r s' hq=>?_)
 match r,hq with
 | .error e,hq=>exact hx e s' hq
 | .ok (.ret u),hq=>exact I.after hq
 | .ok .next,hq=>exact hq.elim
 | .ok .brk,hq=>exact hq.elim
 | .ok .cont,hq=>exact hq.elim
section
variable {X:Cx}{e:Expr}{es:List Expr}{pos p:Pos}{k:Nat}{x:Str}{g:GR}{a:As}
theorem zlp(cal:RCal X.prog X.w X.K X.mg X.base k x g)(hr:Room k X.A)(ha:FA X (e::es) a)(hg:Gl X x:=by rfl)(hdb:(x==("__debug__":Str))=false:=by decide)
   (he:starEach (e::es) X.env=(false,eval e X.env)::starEach es X.env:=by exact zx rfl) (hpl:(backTo pos (starEach es X.env)).any (·.1)=false:=by exact qt rfl) :
   RE X (.Call (.Name x p) (e::es) [] pos) (zls g a):=by
 obtain⟨f,fd,ps,ds,dvs,dds,gg,F,hm,hk,hb,hd,hdd,hgg⟩:=cal.ex;intro pins s σ H E Q hx I t;obtain⟨ρ,ev,S,nm,S',hE,hS,hf,C,hC,kk⟩:=t;obtain⟨⟨ws,S1⟩,q1,hf⟩:=zy hf;have h:=ha pos pins s σ H (fun vs H1=>spR X.K X.mg gg (vs++dvs) H1 (fun _ _=>False) E) I ⟨ρ,ev,S,ws,S1,hE,hS,q1,fun vs ρ1 H1 E1 hS1 r1=>⟨ρ1,ws++dds,S1,nm,S',r1.append (hdd ρ1 H1),hS1,hgg ws S1 _ hf,C,hC,fun e ρ2 H2 E2 hS2=>kk e ρ2 H2 (E1.trans E2) hS2⟩⟩;refine z3h (kn I hg hm ?_ hdb);refine z3q (h₀:=X.base) I.ok.mod.kin hk (thn h fun us s1 ⟨vs,H1,I1,r,q⟩=>⟨I1.kIn,?_⟩) he hpl;refine thn (zy0 F hr hb hd I1 (fun e s' hc=>hx.pass I1 hc) r q) fun v s1 q=>?_;obtain⟨_,_,_,_,q⟩:=q;exact q.elim
end
def zcg(N n:Nat)(r:R):GR:=fun ds S=>if ds.length=n then r (ds.map some++List.replicate (N-ds.length) none) S else none
theorem zym{P:Program}{w:World}{K:zFr}{mg:zMg}{base:Heap}{N:List Str}{qual:Str}{scope:Scope}{f:Addr}{cd:Value}{A:Around}{outer:List Env}{s₀:Shared}{H₀:Hp}{E:XK} :
   ∀pins σ,XE (zd8 (CX1 P w) P w K mg base N qual scope f cd A outer s₀ H₀ E) pins σ E:=fun _ _=>⟨fun I os bare un hok bn hE=>zn5 (I.call' os un hok bare fun b hb=>absurd hb (by simp)) (bn.back fun b o e=>I.base.there b o e (by show b∉([]:List Addr);simp)) hE,fun I h=>zzh _ _ _ _ _ _ I h⟩
theorem FunD.rok{P:Program}{w:World}{K:zFr}{mg:zMg}{base:Heap}{x qual:Str}{st:Stmt}{f:Addr}{fd:FuncData}{dV:Value}{N ps:List Str}{k:Nat}{r:R}(F:FunD K x qual st f fd dV)(S:FnScope N ps (zi st))
   (hbody:∀(cdv:Value) (A:Around) (outer:List Env) (s:Shared) (H:Hp) (E:XK),Room k (A.deeper (envOfC qual (zi st) s.heap.objs.size f cdv)) ->
     RSs (zd8 (CX1 P w) P w K mg base N qual (zi st) f cdv A outer s H E) (j0 st) r):FnOk P w K mg base (CX1 P w) (k+1) f fd ps (spR K mg (zcg N.length ps.length r)):=by
 obtain⟨oc,od,kV,doc,pm,an,cdv,ct,osl,rfl,lk,hcd⟩:=F.ex;refine ztq lk hcd S (fun vs H Q E h=>?_) fun A outer s H vs Q E hr hsp=>?_
 · obtain⟨ρ,ds,S,c,S',r1,hS,hf,k⟩:=h;unfold zcg at hf;split at hf
   · rename_i hl;rw[<-r1.length];exact hl
   · cases hf
 · refine⟨fun _ σ' H'=>tR K mg r σ' H' E,fun pins s1 σ1 H1 D I t=>hbody cdv A outer s H E hr pins s1 σ1 H1 E _ (zym pins) I t,?_⟩;obtain⟨ρ,ds,S,c,S',r1,hS,hf,kk⟩:=hsp;unfold zcg at hf;split at hf
   · rename_i hl;have hs:=EnvR.start (N:=N) r1;exact⟨ρ,_,S,c,S',hs,hS,hf,kk⟩
   · cases hf
section
variable {X:Cx}{e:Expr}{pos pos':Pos}{r:R}{x:Str}
theorem zix(he:RE X e r)(hs:swapsWith e (some (.Name x pos')) pos.line X.env=pure false:=by rfl):RS X (.Assign [.Name x pos'] e pos) r:=fun pins s σ H E Q hx I t=>wpAny_Assign_Name (he pins s σ H E _ hx I t) hs
end
structure RMth (P:Program) (w:World) (K:zFr) (mg:zMg) (base:Heap) (k:Nat) (c m:Str) (g:GR):Prop where
 ex:∃(C f:Addr) (fd:FuncData) (ps:List Str) (ds:List Value) (dvs:List V) (dds:List D) (gg:GR),FnOk P w K mg base (CX1 P w) k f fd ps (spR K mg gg)/\mg c=some (.ref C)/\Cls K C/\Meth K C m f /\
   Binds K fd ps ds/\Vals dvs ds/\(∀ρ H,RepL K mg ρ H dds dvs)/\∀args S r,g args S=some r->gg (args++dds) S=some r
def zc8(c m:Str)(g:GR)(f:E)(a:As):R:=fun ev S=>(f ev S).bind fun p=>(ki c p.2 p.1).bind fun q=>if q.2.lookup m=none then (a ev p.2).bind fun z=>g (.obj q.1::z.1) z.2 else none
section
variable {X:Cx}{k:Nat}{x c m n:Str}{g:GR}{e o:Expr}{es:List Expr}{a:As}{f:E}{p pos apos:Pos}
theorem zsh(mt:RMth X.prog X.w X.K X.mg X.base k c m g)(hr:Room k X.A)(ho:FE X o f)(ha:FA X (e::es) a){pl:Sem Bool}
   (hst:starEach (e::es) X.env=(false,eval e X.env)::starEach es X.env:=by exact zx rfl) (hpl:(backTo pos (starEach es X.env)).any (·.1)=false:=by exact qt rfl)
   (ht:eval (.Call (.Attribute o m apos) (e::es) [] pos) X.env=(do
     let ov <-eval o X.env
     standAt apos.atName
     let(f,first) <-holding [ov] (getMethod ov m pl)
     callWith pos f first (backTo pos (starEach (e::es) X.env)) (backToKw pos (keywordEach [] X.env))):=by rfl) :
   RE X (.Call (.Attribute o m apos) (e::es) [] pos) (zc8 c m g f a):=by
 obtain⟨C,fa,fd,ps,ds,dvs,dds,gg,F,hm,hc,hme,hb,hd,hdd,hgg⟩:=mt.ex;intro pins s σ H E Q hx I t;obtain⟨ρ,ev,S,nm,S',hE,hS,hf,CC,hC,kk⟩:=t;obtain⟨⟨y,S1⟩,q1,hf1⟩:=zy hf;obtain⟨⟨i,fs⟩,q2,hf2⟩:=zy hf1;dsimp only at hf2 q2;split at hf2
 · rename_i hl;obtain⟨⟨ys,S2⟩,q3,hf3⟩:=zy hf2;obtain⟨rfl,hi⟩:=y6 q2;have h0:=ho pins s σ H (fun x H1=>∃b dx fs,x=.ref b/\H1 b=some (.ins C dx fs)/\fs.lookup m=none/\tAs X.K X.mg a σ H1 fun vs H2=>spR X.K X.mg gg (x::(vs++dvs)) H2 (fun _ _=>False) E) I ⟨ρ,ev,S,_,S1,hE,hS,q1,fun v ρ1 H1 E1 hS1 r1=>by
     obtain⟨b,C',dx,vs,rfl,hb1,hm',hb2,hb3⟩:=zbd hS1 hi r1;have ec:C'=C:=by rw[hm]at hm';cases hm';rfl
     subst ec;refine⟨b,dx,vs,rfl,hb2,kx hb3.1 hl,ρ1,ev,S1,ys,S2,hE.mono E1,hS1,q3,fun us ρ2 H2 E2 hS2 r2=>?_⟩;refine⟨ρ2,.obj i::ys++dds,S2,nm,S',?_,hS2,hgg _ S2 _ hf3,CC,hC,fun e ρ' H' E' hS'=>kk e ρ' H' ((E1.trans E2).trans E') hS'⟩;exact RepL.cons (r1.mono E2) (r2.append (hdd ρ2 H2))⟩
   refine z3x (pl:=pl) (thn h0 fun u s1 ⟨x,H1,I1,rx,b,dx,fs,ex,ea,l,q⟩=>?_) ht;subst ex;cases(show u=Value.ref b from rx);refine yq I1 ea hc hme l ?_;refine z3q (first:=[.ref b]) (h₀:=X.base) I.ok.mod.kin hme.kp (thn (ha pos pins s1 σ H1 _ I1 q) fun us s2 ⟨vs,H2,I2,r,q2⟩=>⟨I2.kIn,?_⟩) hst hpl;refine thn (zy0 (us:=.ref b::us) (vs:=.ref b::vs) F hr hb hd I2 (fun e s' hc=>hx.pass I2 hc) (.cons rfl r) q2) fun v s1 q=>?_;obtain⟨_,_,_,_,q⟩:=q;exact q.elim
 · cases hf2
end
def ExcCls(K:zFr)(mg:zMg)(c:Str):Prop :=
 ∃(C N:Addr) (nm q:Str) (bs bm bmB:List Value) (hdct:Bool) (sn:List Str) (sub:List Value) (ab:Bool) (col:Option Bool) (dd:Option Addr) (k0 k1 k2 k3 k5:Option Value) (B newId initId:String) (mN:zMg),
   mg c=some (.ref C)/\ExcBaseFacts B newId initId bmB/\bm.contains (.type "BaseException")=true/\mN "__init__"=none /\
   ∀h:Heap,K.In h->h.get? C=some (excClassObj nm q C N bs bm hdct sn sub ab col dd k0 k1 k2 k3 k5 newId)/\h.Ns N mN/\OwnTail h bmB bm
def zgj(c:Str)(a:As):R:=fun ev S=>(a ev S).bind fun q=>if q.1.length<=sizeLine then some (c,q.2)else none
section
variable {X:Cx}{e:Expr}{es:List Expr}{a:As}{c:Str}{np cpos pos:Pos}
theorem ziy(hc:ExcCls X.K X.mg c)(ha:FA X (e::es) a)(hg:Gl X c:=by rfl)(he:starEach (e::es) X.env=(false,eval e X.env)::starEach es X.env:=by exact zx rfl)(hcm:X.calm=true:=by rfl)(hdb:(c==("__debug__":Str))=false:=by decide)(hpl:(backTo cpos (starEach (e::es) X.env)).any (·.1)=false:=by exact qt rfl)(hne:c≠"Changed":=by decide) :
   RS X (.Raise (some (.Call (.Name c np) (e::es) [] cpos)) none pos) (zgj c a):=by
 obtain⟨C,N,nm,q,bs,bm,bmB,hdct,sn,sub,ab,col,dd,k0,k1,k2,k3,k5,B,newId,initId,mN,hm,F,hb,hi,hk⟩:=hc;intro pins s σ H E Q hx I t;obtain⟨ρ,ev,S,nm',S',hE,hS,hf,CC,hC,kk⟩:=t;obtain⟨⟨ws,S1⟩,q1,hf1⟩:=zy hf;dsimp only at hf1;split at hf1
 · rename_i hl;cases hf1;rw[hm]at hC;cases hC;refine wpAny_Raise_call_subT (nm:=nm) (q:=q) (N:=N) (bs:=bs) (hdct:=hdct) (sn:=sn) (sub:=sub) (ab:=ab) (col:=col) (dd:=dd) (k0:=k0) (k1:=k1) (k2:=k2) (k3:=k3) (k5:=k5) F hb (I.ok.hd hcm) hpl hi (kn I hg hm ⟨rfl,?_⟩ hdb);have hA:=ha cpos pins s σ H (fun vs H1=>vs.length<=sizeLine/\∃ρ1,Ext ρ H ρ1 H1/\StOk X.K X.mg ρ1 H1 S') I ⟨ρ,ev,S,ws,S',hE,hS,q1,fun vs ρ1 H1 E1 hS1 r1=>⟨by rw[<-r1.length];exact hl,ρ1,E1,hS1⟩⟩;rw[he]at hA ⊢;refine z41 (thn hA fun us s2 ⟨vs,H2,I2,r2,lv,ρ1,E1,hS1⟩=>?_);obtain⟨z1,z2,z3⟩:=hk s2.heap I2.kIn;exact⟨rfl,by show us.length<=_;rw[<-r2.length];exact lv,z1,z2,z3,fun h' e mk=>by
     have I3:=I2.kept (t':=s2.toks) mk.keeps;obtain⟨t,he',_⟩:=mk.there;exact hx.first I2 rfl I2.bare (Un.kept mk.keeps) I3.hok ⟨mk.new,zo4 (fun b u q=>za5 (I2.hok b u q)) mk.new,_,_,he',rfl,rfl,rfl,rfl⟩ (kk _ ρ1 H2 E1 hS1 fun z=>absurd z hne)⟩
 · cases hf1
end
end F
namespace F
open PySem L2 PySem.Spec PySem.Calls PyProof.Rows PySem.W
section
variable {prog:Program}{w:World}{A:Around}{E:zVP}{s:Shared}{K:zFr}{x D:Addr}
structure ExcIs (K:zFr) (D:Addr):Prop where
 ga:findIn K (.ref D) "__getattribute__"=some (some (.builtin "BaseException.__getattribute__"))
 gn:findIn K (.ref D) "__getattr__"=some none
 ha:findIn K (.ref D) "__class__"=some (some (.builtin "object.__class__"))
 hn:specialIn K (.builtin "object.__class__") "__get__"=some (some (.builtin "getset_descriptor.__get__"))
 htk:takesIn K (.builtin "object.__class__")=some true
 hm:mroIn K D (.type "object")=some true
 hb:mroIn K D (.type "BaseException")=some true
 cl:(clsIn K D).isSome=true
def OfCls(x D:Addr)(h:Heap):Prop:=∃o,h.get? x=some o/\o.cls=.ref D
theorem OfCls.type{M:Model}{h:Heap}(I:OfCls x D h):Looks M h (typeOf (.ref x)) (.ref D):=by obtain⟨o,h1,h2⟩:=I;have L:=(Looks.ld (M:=M) (part:=some headPart) h1).andThen (f:=fun o=>pure o.cls) (b:=o.cls) .now;rw[h2]at L;exact L
theorem zpr{M:Model}{h:Heap}(X:K.In h)(Z:ExcIs K D):Looks M h (Builtin.ObjectAttr.find (.ref x) (.ref D) "__class__") (.bind (.builtin "getset_descriptor.__get__") (.builtin "object.__class__")):=by refine(z4y X Z.ha).andThen ?_;refine(show Looks M h (Builtin.ObjectAttr.getOf (some (.builtin "object.__class__"))) _ from looks_specialIn X Z.hn).andThen ?_;have L3:Looks M h (Builtin.ObjectAttr.dataDescriptor? (some (.builtin "object.__class__")) (some (.builtin "getset_descriptor.__get__"))) (some (.builtin "getset_descriptor.__get__",.builtin "object.__class__")):=(looks_takesIn X Z.htk).andThen .now;exact L3.andThen (Looks.tag .now)
theorem ztw{R:Result->Shared->Prop}{tp:Value}(X:K.In s.heap)(I:OfCls x D s.heap)(Z:ExcIs K D)(h:R (.ok (.ret (.ref D))) s) :
   codeAny (model prog w) A (.call (.builtin "getset_descriptor.__get__") ⟨[.builtin "object.__class__",.ref x,tp],[]⟩) R s:=by
 obtain⟨o,h1,h2⟩:=id I;obtain⟨hh,g,dr,t,os⟩:=s;have L0:=I.type (M:=model prog w);have L1:=z5m (M:=model prog w) X Z.hm;refine z31 (KF.slot_gs.plain) (KF.entry_gs) (KF.slot_gs.check _ _ _ _ _ _ _ _ KF.type_class (KF.args_gs _ _ _) ?_);unfold Builtin.«getset_descriptor.__get__» Builtin.Getset_descriptor.descrGet;rw [dga_obj];refine z12 (z2a ?_);unfold Builtin.Getset_descriptor.descrGetter Builtin.Getset_descriptor.descrCheckInstance Builtin.Getset_descriptor.descrNameAndClass isInstance;simp only[KF.owner_class];repeat lk
 refine ⟨z5f _ (by decide +kernel),codeAny_builtin (KF.entry_class) ?_⟩;unfold Builtin.«object.__class__» shownTypeOf;(repeat lk);exact h
theorem zm7{tk:Tok}{Q:Fin->Shared->Prop}(X:K.In s.heap)(I:OfCls x D s.heap)(Z:ExcIs K D)(h:Q (.done (.ret (.ref D))) s) :
   wpAny (model prog w) A (Builtin.«object.__getattribute__» ⟨[.ref x,.str "__class__" tk],[]⟩) Q E s:=by
 obtain⟨hh,g,d,t,os⟩:=s;have L0:=I.type (M:=model prog w);have L1:=zpr (M:=model prog w) (x:=x) X Z;unfold Builtin.«object.__getattribute__»;refine z12 (z2a (z12 (z2a (z12 (L0.at (z12 (L1.at ?_)))))));show wpAny _ _ (holding [.builtin "object.__class__"] (call (.builtin "getset_descriptor.__get__") [.builtin "object.__class__",.ref x,.ref D]) >>= ret) _ _ _;exact z12 (wpAny_holding (z4i (ztw X I Z (z2a h))))
theorem zgv{M:Model}{nameV:Value}{Q:Unit->Shared->Prop}(X:K.In s.heap)(I:OfCls x D s.heap)(Z:ExcIs K D)(hq:Q () s) :
   wpAny M A (checkBuiltinCall "BaseException.__getattribute__" ⟨[.ref x,nameV],[]⟩) Q E s:=by
 have hk:(builtinKind "BaseException.__getattribute__")=some .slot:=by decide +kernel
 have hsplit:(splitId "BaseException.__getattribute__")=some ("BaseException", "__getattribute__"):=by decide +kernel
 have ha:=PySem.F.args_bexc_ga (.ref x) nameV;have LI:Looks M s.heap (isInstance (.ref x) (.type "BaseException")) true:=(I.type (M:=M)).andThen (z5m (M:=M) X Z.hb);simp only[checkBuiltinCall,hk,hsplit];refine z12 (LI.at ?_)
 repeat (any_goals (first | assumption | wp_step))
theorem zm8{Q:Option Value->Shared->Prop}(X:K.In s.heap)(I:OfCls x D s.heap)(Z:ExcIs K D)(h:Q (some (.ref D)) { s with toks:=s.toks+1 }) :
   wpAny (model prog w) A (getAttr? (.ref x) "__class__") Q E s:=by
 obtain⟨hh,g,d,t,os⟩:=s;have L0:=I.type (M:=model prog w);have L1:=z4y (M:=model prog w) X Z.ga;have L2:=z4y (M:=model prog w) X Z.gn;have f3:=z3w.ga.bind (.ref x);have hx2:(Value.builtin "BaseException.__getattribute__"==Value.builtin "object.__getattribute__")=false:=(by decide +kernel)
 unfold getAttr? getAttrBy? getAttrBy;refine z12 (wpAny_mkText (z12 (z5n (wpAny_holding (z12 (L0.at (z12 (L1.at (?_)))))))));show wpAny _ _ (if(true&&Value.builtin "BaseException.__getattribute__"==Value.builtin "object.__getattribute__")=true then _ else _) _ _ _;rw[hx2];simp only[z5z,z21,z36];unfold getAttrByItsOwn hookBefore;show wpAny _ _ ((do let before <-typeLookup (.ref D) "__getattr__";_):Sem Value) _ _ _;refine z12 (L2.at ?_);refine z12 (z5n (wpAny_holding ?_));unfold callGetattribute boundAndCalled;simp only[z5h,z21,z36,f3,pure_bind];refine z4i (z31 z3w.ga.plain PySem.F.entry_bexc_ga (zgv X I Z (zm7 X I Z ?_)));exact z2a (z2a h)
theorem zjb(Z:ExcIs K D):KitX K (.ref x) (.ref D) (OfCls x D) where
 ty:=fun _ _ _ I=>I.type
 it:=fun M h X _=>by
   have z:=Z.cl;unfold clsIn at z;split at z
   · rename_i ho;intro A' Q' E' s' k q;exact z12 (z4w (k _ _ (X _ _ ho)) (z2a q))
   · cases z
 ne:=fun h tp dd its n sl X htp=>by
   have z:=Z.cl;refine Bool.eq_false_iff.mpr fun q=>?_;obtain rfl:D=tp:=Value.ref.inj (z3k.mp q);unfold clsIn at z;split at z
   · rename_i ho;cases(X _ _ ho).symm.trans htp
   · cases z
 ca:=fun X I k=>zm8 X I Z k
end
theorem zes{α:Type}{q:α->Bool}:∀(l:List α) (i:Nat) (x:α),l[i]? = some x->q x=false->(l.eraseIdx i).find? q=l.find? q
 | [],_,_,h,_=>by simp at h
 | a::l,0,x,h,hq=>by simp at h;subst h;simp[List.find?_cons,hq]
 | a::l,i+1,x,h,hq=>by rw[List.eraseIdx_cons_succ,List.find?_cons,List.find?_cons,zes l i x (by simpa using h) hq]
theorem zpg{v:Value}{x y:Str}(h:v.isStr x=true)(n:y≠x):v.isStr y=false:=by
 cases v with
 | str z t=>
   have e:z=x:=by simpa [Value.isStr] using h
   subst e;simpa [Value.isStr] using fun e=>n e.symm
 |_=>cases h
section
variable {M:Model}{A:Around}{E:zVP}{s:Shared}
theorem zxj{a:Addr}{m:zMg}{name:Str}{u:Value}{Q:Bool->Shared->Prop}(hn:s.heap.Ns a m)(hu:m name=some u)
   (hQ:∀h' m',h'.Ns a m'->(∀y,y≠name->m' y=m y)->Heap.SameBut a s.heap h'->Q true { s with heap:=h' }):wpAny M A (nsDel a name) Q E s:=by
 obtain⟨o,es,ep,ho,hd,hk,hm⟩:=id hn;obtain⟨cl,d,dt,sl⟩:=o;subst hd;cases hi:es.findIdx? (·.key.isStr name) with
 | none=>
   have z:=hm name;rw[hu]at z;unfold nsFind at z;rw[findBy_of_findIdx?,hi]at z;cases z
 | some i=>
   have hq:es.any (·.key.isStr name)=true:=by obtain⟨hlt,hp,_⟩:=z4k.mp hi;exact Array.any_eq_true.mpr ⟨i,hlt,hp⟩
   have hhas:nsHas name ⟨cl,d,.dict es ep,sl⟩=pure true:=by rw[nsHas_eq];unfold nsHasByArray;simp only[hq,z37]
   unfold nsDel;refine z12 (z4w ho ?_);rw[hhas];refine z12 (z2a (z12 (wpAny_updatePart ho (z2a ?_))));refine hQ _ (fun y=>nsFind (es.eraseIdxIfInBounds i) y) ⟨_,_,ep+1,z27 _ ho ?_,?_,hk.erase i,fun _=>rfl⟩ (fun y hy=>?_) (Heap.SameBut.update ..)
   · simp only[Obj.dropName_eq,Obj.dropNameByArray,hi];rfl
   · simp only[Obj.dropName_eq,Obj.dropNameByArray,hi]
   · obtain⟨hlt,hp,_⟩:=z4k.mp hi;rw[<-hm y];unfold nsFind findBy;refine z30 (Option.map _) ?_;obtain⟨l⟩:=es;have hl:i<l.length:=by simpa using hlt
     rw[Array.eraseIdxIfInBounds,dif_pos (by simpa using hl)];have e:=zes (q:=fun e:DictEntry=>e.key.isStr y) l i l[i] (z19 hl) (zpg (by simpa using hp) hy);simpa using e
end
section
variable {X:Cx}{pins:zAO}{σ:L2.St}{H:Hp}{s:Shared}
theorem zmv{M:Model}{A:Around}{E:zVP}{i:Nat}{x:Str}{pos:Pos}{Q:Unit->Shared->Prop}(I:Inv X pins σ H s)(hN:X.N.Nodup)(hi:X.N[i]? = some x)(hx:X.env.scope.names.lookup x=some .local)
   (h:∀s',Inv X pins (σ.set i none) H s'->Q () s'):wpAny M A (do bindName X.env x .none;unbindBehindTheSuite X.env x pos) Q E s:=by
 refine z12 (wpAny_bindName (zct I hN hi (.inl hx) (show RelV .non .none from rfl) (fun s1 I1=>?_) (.inr hx)));have hcls:(X.env.scope.kind==.class||(X.env.scope.kind==.module&&X.env.locals != X.env.globals))=false:=by rw[I.ok.kind];rfl
 have hk:X.env.kindOf x=some .local:=hx;have hiσ:i<σ.length:=by rw[I.len];exact(z15.mp hi).1
 obtain⟨m,hn,hl⟩:=id I1.loc;obtain⟨u,_,lk⟩:=hl i x .non hi (by rw[z2r hiσ]) (.inl hx);have hu:m x=some u:=by
   rcases lk with⟨_,e⟩ | ⟨k,_⟩
   · exact e
   · rw[hk]at k;rcases k with k | k<;>cases k
 unfold unbindBehindTheSuite;refine wpAny_onRaise ?_;unfold unbindName deleteName;refine z12 (wpAny_point (z12 ?_));simp only[hk,hcls];rw[z2w (by decide)];refine z12 (zxj hn hu fun h2 m2 hn2 hm2 hs=>?_);simp only[Bool.not_true,z21,z36];refine z2a (wpAny_point (h _ ?_));obtain⟨oL,_,_,hoL,_⟩:=id hn;have ne:∀{b:Addr}{o:Obj},X.s₀.heap.get? b=some o->b≠X.env.locals:=fun e=>z2f (z18 (z2c e) I.ok.above);refine⟨I1.ok,I1.os,I1.bare,⟨fun b o e n hb hx=>(hs.2 b (ne e)).trans (I1.base.keep b o e n hb hx),fun b o e n hb hx=>?_,I1.base.free,fun b o e hx=>?_,I1.base.tups,I1.base.frzs,I1.base.tbls⟩,⟨_,hn2,fun j y v' e1 e2 e3=>?_⟩,fun y c e=>?_,I1.free,I1.freeC,fun p hp=>?_,fun b ob e=>?_,by simpa using I1.len⟩
 · obtain⟨sl,e1⟩:=I1.base.slot b o e n hb hx;exact⟨sl,(hs.2 b (ne e)).trans e1⟩
 · obtain⟨o',e1⟩:=I1.base.there b o e hx;exact⟨o',(hs.2 b (ne e)).trans e1⟩
 · by_cases hj:j=i
   · subst hj;rw[z2r hiσ]at e2;cases e2
   · rw[z23 (z26 hj)]at e2;obtain⟨u',r',q⟩:=hl j y v' e1 (by rw[z23 (z26 hj)];exact e2) e3;refine⟨u',r',?_⟩;rcases q with⟨k,e⟩ | ⟨k,c,e,z⟩
     · exact .inl ⟨k,(hm2 y fun e=>hj (zfb hN e1 (e▸hi))).trans e⟩
     · exact .inr ⟨k,c,e,z.sameBut hs (I1.cne y c e)⟩
 · obtain⟨w',z⟩:=I1.cell y c e;exact⟨w',z.sameBut hs (I1.cne y c e)⟩
 · obtain⟨e,n,ne,nf,d⟩:=I1.pin p hp;exact⟨(hs.2 p.1 ne).trans e,n,ne,nf,d⟩
 · refine(I1.hok b ob e).stay (fun c w' hc q=>(hs.2 c ?_).trans q) (fun _ q=>q) fun _ _ q=>q;rintro rfl;rcases hc with rfl | hc
   · rw[I1.free]at e;cases e
   · rw[I1.free]at hc;cases hc
end
theorem zhm{fs:List Addr}{H₀ H:Hp}{a C:Addr}{h₀ h h':Heap}(u:Un fs [] H₀ H h₀ h)(l:Lft fs h₀ H a C h h'):Un fs [] H₀ H h₀ h' where
 keep:=fun b o e n nb hx=>l.keep b o (u.keep b o e n nb hx) nb (.inl ⟨_,e⟩)
 slot:=fun b o e n nb hx=>by obtain⟨sl,q⟩:=u.slot b o e n nb hx;obtain⟨sl',q'⟩:=l.slot b _ q nb;exact⟨sl',q'⟩
 free:=u.free
 there:=fun b o e hx=>by
   obtain⟨o',q⟩:=u.there b o e hx;by_cases z:b∈fs
   · obtain⟨sl,q'⟩:=l.slot b _ q z;exact⟨_,q'⟩
   · exact⟨_,l.keep b _ q z (.inl ⟨_,e⟩)⟩
 tups:=u.tups
 frzs:=u.frzs
 tbls:=u.tbls
structure Mid (X:Cx) (H H':Hp) (s:Shared) (h:Heap) (a C:Addr) (dx:Option Addr):Prop where
 un:Un (frs X.stack) [] H H' s.heap h
 hok:HOk X.prog X.w H' h
 fly:Fly s.heap h H' a C dx
section
variable {X:Cx}{pins:zAO}{σ:L2.St}{H H':Hp}{s s':Shared}{a C:Addr}{dx:Option Addr}{M:Model}{E:zVP}{Q:Unit->Shared->Prop}
theorem Mid.inv{h:Heap}(m:Mid X H H' s h a C dx)(I:Inv X pins σ H s)(os:s'.os=s.os)(hg:AllBare s'.gens)(hh:s'.heap=h):Inv X pins σ H' s':=by subst hh;exact I.call' os m.un m.hok hg fun b hb=>absurd hb (by simp)
theorem zo7(m:Mid X H H' s s'.heap a C dx)(I:Inv X pins σ H s)(os:s'.os=s.os)(hg:AllBare s'.gens)(hst:X.stack=X.env::X.outer/\X.env.frame=some X.env.locals)
   (h:∀h',Mid X H H' s h' a C dx->Q () { s' with heap:=h' }):wpAny M X.A (leaving X.env (.ref a)) Q E s':=by
 have I1:=m.inv I os hg rfl;have hfr:=I1.ok.frames;have hl:=I1.stack;rw[hst.1]at hfr hl;refine zem (base:=X.base) (h₀:=s.heap) (H:=H') (L:=X.env.locals) hfr hl hst.2 m.fly (fun b u e=>za5 (m.hok b u e)) (fun b o e=>m.un.there b o e (by simp)) fun h' f1 l1 _=>?_;rw[<-hst.1]at l1;exact h h' ⟨zhm m.un l1,zbt m.hok l1 I1.stkFree,f1⟩
theorem zmd(I:Inv X pins σ H s)(os:s'.os=s.os)(hg:AllBare s'.gens)(un:Un (frs X.stack) [] H H' s.heap s'.heap)(hok:HOk X.prog X.w H' s'.heap)(bn:Born s.heap s'.heap H' a C dx)(hst:X.stack=X.env::X.outer/\X.env.frame=some X.env.locals)
   (h:∀h',Mid X H H' s h' a C dx->Q () { s' with heap:=h' }):wpAny M X.A (leaving X.env (.ref a)) Q E s':=by
 have I1:Inv X pins σ H' s':=I.call' os un hok hg fun b hb=>absurd hb (by simp);have hfr:=I1.ok.frames;have hl:=I1.stack;rw[hst.1]at hfr hl;refine zdg (base:=X.base) (h₀:=s.heap) (H:=H') (L:=X.env.locals) hfr hl hst.2 bn (fun b u e=>za5 (I1.hok b u e)) (fun b o e=>un.there b o e (by simp)) fun h' f1 l1 _=>?_;rw[<-hst.1]at l1;exact h h' ⟨zhm un l1,zbt I1.hok l1 I1.stkFree,f1⟩
theorem zmc{A:Around}(m:Mid X H H' s s'.heap a C dx)(I:Inv X pins σ H s)(os:s'.os=s.os)(hg:AllBare s'.gens)
   (h:∀h',Mid X H H' s h' a C dx->Q () { s' with heap:=h' }):wpAny M A (setFlight (.ref a) none) Q E s':=by
 have I1:=m.inv I os hg rfl;obtain⟨oe,vs,T,oT,ts,he,hc,hxx,hd,h1,hT0,hTH,hTa,hT,hdT,h3⟩:=m.fly.tr;have h3s:3<ts.size:=(z29.mp h3).1;unfold setFlight;refine z12 (z4g he hd h1 ?_);rw[z2v (show(Value.ref T != Value.none)=true by simp)];refine z5j hT hdT h3s (h _ ?_);have oth:∀b,b≠T->(s'.heap.update T (Obj.mapFields (·.setIfInBounds 3 ((none:Option Addr).elim Value.none fun f=>rawInt f)))).get? b=s'.heap.get? b:=fun b hb=>z2m _ _ (z26 hb);have l1:Lft (frs X.stack) s.heap H' a C s'.heap (s'.heap.update T (Obj.mapFields (·.setIfInBounds 3 ((none:Option Addr).elim Value.none fun f=>rawInt f)))):=by
   refine⟨fun b o e nb hb=>?_,fun b o e hb=>?_⟩
   · refine(oth b fun z=>?_).trans e;subst z;rcases hb with⟨_,hb⟩ | ⟨_,hb⟩
     · rw[hT0]at hb;cases hb
     · rw[hTH]at hb;cases hb
   · refine⟨o.slots,(oth b fun z=>?_).trans e⟩;subst z;obtain⟨_,o2,ho2,hnf⟩:=I1.stack.mem hb;rw[hT]at ho2;cases ho2;exact hnf _ hdT
 refine⟨zhm m.un l1,zbt m.hok l1 I1.stkFree,m.fly.new,m.fly.un,oe,vs,T,_,_,(oth a (z26 hTa)).trans he,hc,hxx,hd,h1,hT0,hTH,hTa,z27 _ hT (z3z (z3i hdT _)),z3i hdT _,by simp[h3s]⟩
theorem Mid.held{h:Heap}{φ:Heap->Prop}(m:Mid X H H' s h a C dx)(hp:∀o vs,h.get? a=some o->o.cls=.ref C->o.dict=dx->o.data=.fields vs->φ h)(hs:∀h1 h2:Heap,φ h1->(∀o,h1.get? a=some o->h2.get? a=some o)->φ h2) :
   Un (frs X.stack) [] H (upd H' a (.ext φ)) s.heap h/\HOk X.prog X.w (upd H' a (.ext φ)) h:=by
 have ne:∀{b:Addr}{o:HO},H' b=some o->b≠a:=fun e z=>by subst z;rw[m.fly.un]at e;cases e
 refine⟨⟨m.un.keep,m.un.slot,fun b o e n hx=>?_,m.un.there,fun b xs e=>?_,fun b o u e=>?_,fun b ps e=>?_⟩,fun b u e=>?_⟩
 · rw[zw (fun z=>by subst z;rw[m.fly.new]at e;cases e)];exact m.un.free b o e n hx
 · have q:=m.un.tups b xs e;rw[zw (ne q)];exact q
 · have q:=m.un.frzs b o u e;rw[zw (ne q)];exact q
 · obtain⟨more,q⟩:=m.un.tbls b ps e;exact⟨more,by rw[zw (ne q)];exact q⟩
 · by_cases hb:b=a
   · subst hb;rw[jd]at e;cases e;obtain⟨oe,vs,T,oT,ts,he,hc,hxx,hd,_⟩:=m.fly.tr;exact⟨hp oe vs he hc hxx hd,⟨oe,he⟩,hs⟩
   · rw[zw hb]at e;refine(m.hok b u e).stay (fun c w hc q=>q) (fun c q=>?_) fun c xs q=>?_
     · rw[zw (ne q)];exact q
     · rw[zw (ne q)];exact q
end
def CatB(K:zFr)(mg:zMg)(c T:Str)(b:Bool):Prop :=
 ∃C CT,mg c=some (.ref C)/\mg T=some (.ref CT)/\mroIn K C (.ref CT)=some b/\mroIn K CT (.type "BaseException")=some true/\typeIn K (.ref CT)=some (.type "type")/\(clsIn K CT).isSome=true
def Cat(K:zFr)(mg:zMg)(c T:Str):Prop:=CatB K mg c T true
section
variable {K:zFr}{A:Around}{E:zVP}{s:Shared}{M:Model}{x C CT:Addr}{b:Bool}
theorem zbz{Q:Bool->Shared->Prop}(X:K.In s.heap)(I:OfCls x C s.heap)(h1:mroIn K C (.ref CT)=some b)(h2:mroIn K CT (.type "BaseException")=some true)(h3:typeIn K (.ref CT)=some (.type "type"))(h4:(clsIn K CT).isSome=true)(hq:Q b s) :
   wpAny M A (excMatches (.ref x) (.ref CT)) Q E s:=by
 have L0:=I.type (M:=M);have L1:=z5m (M:=M) X h1;have L2:=z5m (M:=M) X h2;have L3:=looks_typeIn (M:=M) X h3;have L4:Looks M s.heap (isInstance (.ref CT) (.type "tuple")) false:=L3.andThen (Looks.of_pure tc_notTuple);have L5:Looks M s.heap (isType (.ref CT)) true:=by
   unfold clsIn at h4;split at h4
   · rename_i ho;intro A' Q' E' s' k q;exact z12 (z4w (k _ _ (X _ _ ho)) (z2a q))
   · cases h4
 have L6:Looks M s.heap (isExcClass (.ref CT)) true:=by unfold isExcClass;refine L5.andThen ?_;rw[z2v rfl];exact L2
 obtain⟨hh,g,d,t,os⟩:=s;unfold excMatches;refine z12 (L4.at ?_);simp only[z21,z36,pure_bind,List.forIn_cons,List.forIn_nil,bind_assoc];refine z12 (L6.at ?_);simp only[Bool.not_true,z21,z36,pure_bind];refine z12 (L0.at ?_);refine z12 (L1.at ?_);cases b with
 | true=>
   simp only[z37,pure_bind];exact z2a hq
 | false=>
   simp only[z21,z36,pure_bind];exact z2a hq
end
def zh3(c:Str)(n:Nat):MO:=if c="Changed" then .xc c (n-1)else .exc c
def zn4(f:Str->Option (Option Nat×C))(c:Str)(ev:Ev)(S:Sto):Option (Out×Sto):=(f c).bind fun p=>match p.1 with
 | some i=>(p.2 (ev.set i (some (.obj S.length))) (S++[zh3 c S.length])).bind fun q=>(match q.1 with
   | .nx e=>some (.nx (e.set i none),q.2)
   | .rt x=>some (.rt x,q.2)
   |_=>none)
 | none=>(p.2 ev S).bind fun q=>(match q.1 with
   | .nx e=>some (.nx e,q.2)
   | .rt x=>some (.rt x,q.2)
   |_=>none)
def zea(c:C)(r:R)(f:Str->Option (Option Nat×C)):C:=fun ev S=>match c ev S with
 |some (.nx e,S1)=>some (.nx e,S1)
 |some (.rt x,S1)=>some (.rt x,S1)
 |some _=>none
 |none=>(r ev S).bind fun p=>zn4 f p.1 ev p.2
def hAs(cat:Str->Bool)(i:Option Nat)(d:C)(no:Str->Bool)(f:Str->Option (Option Nat×C)):Str->Option (Option Nat×C):=fun c=>if cat c=true then some (i,d)else if no c=true then f c else none
def hNo:Str->Option (Option Nat×C):=fun _=>none
theorem EnvR.unset{K mg ρ H}{ev:Ev}{σ:L2.St}(h:EnvR K mg ρ H ev σ)(i:Nat):EnvR K mg ρ H (ev.set i none) (σ.set i none):=by
 refine⟨by rw[z3b,z3b];exact h.len,fun j x q=>?_⟩;by_cases hj:j=i
 · subst hj;have hi:j<ev.length:=by
     have:=(z15.mp q).1
     rwa [z3b]at this
   rw[z2r hi]at q;cases q
 · rw[z23 (z26 hj)]at q ⊢;exact h.at_ j x q
abbrev Cx.inExc(X:Cx)(v:Option Value)(xe:zVP):Cx:={ X with A:=X.A.mark v,calm:=false,xe:=xe }
section
variable {X:Cx}{pins:zAO}{σ:L2.St}{H H':Hp}{s s':Shared}
theorem Inv.toExc(I:Inv X pins σ H s)(v:Option Value)(xe:zVP):Inv (Cx.inExc X v xe) pins σ H s :=
 ⟨⟨I.ok.mod,I.ok.kind,I.ok.glob,I.ok.blt,I.ok.above,I.ok.inj,I.ok.has,I.ok.cab,(fun h=>nomatch h),I.ok.frames,I.ok.stk,I.ok.exf,I.ok.bs,I.ok.bsz,I.ok.noex,I.ok.exfs,I.ok.funs,I.ok.frf⟩,I.os,I.bare,I.base,I.loc,I.cell,I.free,I.freeC,I.pin,I.hok,I.len⟩
theorem Inv.ofExc{v:Option Value}{xe:zVP}(I:Inv (Cx.inExc X v xe) pins σ H s)(ok:X.Ok):Inv X pins σ H s :=
 ⟨ok,I.os,I.bare,I.base,I.loc,I.cell,I.free,I.freeC,I.pin,I.hok,I.len⟩
variable {body suite:List Stmt}{b0:Stmt}{c d:C}{r:R}{T n:Str}{np pos' pos:Pos}{cat:Str->Bool}{Q:Flow->Shared->Prop}
theorem zk4{ρ':List Addr}{S1:Sto}{cls:Str}{a C:Addr}{dx:Option Addr}(m:Mid X H H' s s'.heap a C dx)(hS:StOk X.K X.mg ρ' H' S1)(hC:X.mg cls=some (.ref C))(ht:zx3 cls S1 ρ' (zki dx)) :
   ∃φ:Heap->Prop,(∀h o vs,h.get? a=some o->o.cls=.ref C->o.dict=dx->o.data=.fields vs->φ h)/\(∀h1 h2:Heap,φ h1->(∀o,h1.get? a=some o->h2.get? a=some o)->φ h2)/\StOk X.K X.mg (ρ'++[a]) (upd H' a (.ext φ)) (S1++[zh3 cls S1.length]):=by
 by_cases hc:cls="Changed"
 · obtain⟨b,n,d,e1,e2,e3⟩:=ht hc;cases dx with
   |none=>cases e1
   | some y=>
     cases e1;refine⟨fun h=>∃o vs,h.get? a=some o/\o.cls=.ref C/\o.dict=some b/\o.data=.fields vs,fun h o vs z1 z2 z3 z4=>⟨o,vs,z1,z2,z3,z4⟩,fun h1 h2 ⟨o,vs,q1,q2⟩ k=>⟨o,vs,k o q1,q2⟩,?_⟩;unfold zh3;rw[z2v hc];refine hS.add m.fly.un ⟨C,b,hC,?_,jd⟩;rw[List.getLast?_eq_getElem?]at e2;rw[<-hS.len,z2k (z15.mp e2).1];exact e2
 · refine⟨OfCls a C,fun h o _ z1 z2 z3 _=>⟨o,z1,z2⟩,fun h1 h2 ⟨o,q1,q2⟩ k=>⟨o,k o q1,q2⟩,?_⟩;unfold zh3;rw[z2w hc];exact hS.add m.fly.un ⟨C,hC,jd⟩
def HS(X:Cx)(hs:List ExceptHandler)(f:Str->Option (Option Nat×C)):Prop:=∀(pins:zAO) (σ:L2.St) (H H0 H':Hp) (s s':Shared) (ρ ρ':List Addr) (ev:Ev) (S1 S':Sto) (o:Out) (cls:Str) (a C:Addr) (dx:Option Addr) (D:Ends),
 Inv X pins σ H s->Mid X H H' s s'.heap a C dx->s'.os=s.os->AllBare s'.gens->EnvR X.K X.mg ρ H0 ev σ->Ext ρ H0 ρ' H'->StOk X.K X.mg ρ' H' S1->zx3 cls S1 ρ' (zki dx)->X.mg cls=some (.ref C)->zn4 f cls ev S1=some (o,S')->Post X.K X.mg D S' ρ H0 o ->
   wpAny (model X.prog X.w) X.A (handleBy (.ref a) X.env hs) (SP X pins D) X.xe s'
theorem zwz{hs:List ExceptHandler}:HS X hs hNo:=fun pins σ H H0 H' s s' ρ ρ' ev S1 S' o cls a C dx D I m os hb hE e1 hS ht hC hf k=>by cases hf
theorem zi8{h:Heap}{a C:Addr}{dx:Option Addr}(m:Mid X H H' s h a C dx):OfCls a C h:=by obtain⟨oe,vs,T,oT,ts,he,hc,_⟩:=m.fly.tr;exact⟨oe,he,hc⟩
variable {rest:List ExceptHandler}{no:Str->Bool}{f:Str->Option (Option Nat×C)}
theorem zw0(i:Nat)(hs:∀v xe,FSs (Cx.inExc X v xe) (b0::suite) d)(hN:X.N.Nodup)(hcat:∀c,cat c=true->CatB X.K X.mg c T true)(hno:∀c,no c=true->CatB X.K X.mg c T false)(hr:HS X rest f)
   (hi:X.N[i]? = some n:=by rfl) (hx:X.env.scope.names.lookup n=some .local:=by rfl) (hg:Gl X T:=by rfl) (hdb:(T==("__debug__":Str))=false:=by decide) :
   HS X (.ExceptHandler (some (.Name T np)) (some n) (b0::suite) pos'::rest) (hAs cat (some i) d no f):=by
 intro pins σ H H0 H' s s' ρ ρ' ev S1 S' o cls a C dx D I m os hb hE e1 hS ht hC hf k;have I1:=m.inv I os hb rfl;have Im:=Inv.toExc I1 (some (.ref a)) (notedBy (model X.prog X.w) (X.A.mark (some (.ref a))) X.env (cameBackBy (model X.prog X.w) X.A X.env X.xe));by_cases hct:cat cls=true
 · obtain⟨C',CT,hc1,hc2,h1,h2,h3,h4⟩:=hcat cls hct;rw[hC]at hc1;cases hc1;unfold zn4 hAs at hf;rw[z2v hct]at hf;replace hf:((d (ev.set i (some (.obj S1.length))) (S1++[zh3 cls S1.length])).bind fun q=>(match q.1 with
     | .nx e=>some (Out.nx (e.set i none),q.2)
     | .rt x=>some (.rt x,q.2)
     |_=>none))=some (o,S'):=hf
   refine z4h (z38 (kn (X:=Cx.inExc X (some (.ref a)) _) Im hg hc2 (zbz I1.kIn (zi8 m) h1 h2 h3 h4 ?_) hdb)) (by intro q;cases q);refine codeAny_handlers_suite_as (zmc m I os hb fun h6 m6=>?_);obtain⟨φ,p1,p2,hS2⟩:=zk4 (s':={ s' with heap:=h6 }) m6 hS hC ht;obtain⟨un6,hok6⟩:=m6.held (p1 h6) p2;have I6:Inv X pins σ (upd H' a (.ext φ)) { s' with heap:=h6 }:=I.call' os un6 hok6 hb fun b hb=>absurd hb (by simp);have I6m:=Inv.toExc I6 (some (.ref a)) (AsSuiteRaised (model X.prog X.w) (X.A.mark (some (.ref a))) X.env n pos' (notedBy (model X.prog X.w) (X.A.mark (some (.ref a))) X.env (cameBackBy (model X.prog X.w) X.A X.env X.xe)));refine zct (X:=Cx.inExc X (some (.ref a)) _) (v:=.ref a) I6m hN hi (.inl hx) rfl (fun s7 I7=>?_) (.inr hx);obtain⟨⟨o2,S2⟩,q2,hf⟩:=zy hf;have e2:Ext ρ' H' (ρ'++[a]) (upd H' a (.ext φ)):=zce hS _ m.fly.un;have hE2:EnvR X.K X.mg (ρ'++[a]) (upd H' a (.ext φ)) (ev.set i (some (.obj S1.length))) (σ.set i (some (.ref a))):=by refine EnvR.set (hE.mono (e1.trans e2)) ?_ i;unfold Rep;refine⟨a,rfl,?_⟩;rw[z2j (by rw[hS.len]<;>exact z16 _),hS.len];simp
   have go:=hs (some (.ref a)) _ pins s7 _ _ { nx:=fun σ' H2=>D.nx (σ'.set i none) H2,rt:=D.rt,bk:=fun _ _=>False,ct:=fun _ _=>False } I7 ⟨_,_,_,o2,S2,hE2,hS2,q2,by
     cases o2 with
     |nx e=>cases hf;exact fun σ' ρ2 H2 x1 x2 x3=>k _ ρ2 H2 ((e1.trans e2).trans x1) x2 (x3.unset i)
     |rt x=>cases hf;exact fun v ρ2 H2 x1 x2 x3=>k v ρ2 H2 ((e1.trans e2).trans x1) x2 x3
     |_=>cases hf⟩
   refine thn go fun f s8 q=>?_;cases f with
   | next=>
     obtain⟨σ8,H8,I8,q⟩:=q;exact zmv (Inv.ofExc I8 I.ok) hN hi hx fun s9 I9=>⟨_,H8,I9,q⟩
   | ret u=>
     obtain⟨v,σ8,H8,I8,r8,q⟩:=q;exact zmv (Inv.ofExc I8 I.ok) hN hi hx fun s9 I9=>⟨v,_,H8,I9,r8,q⟩
   |brk=>obtain⟨_,_,_,q⟩:=q;exact q.elim
   |cont=>obtain⟨_,_,_,q⟩:=q;exact q.elim
 · by_cases hnt:no cls=true
   · obtain⟨C',CT,hc1,hc2,h1,h2,h3,h4⟩:=hno cls hnt;rw[hC]at hc1;cases hc1;refine z4h (z38 (kn (X:=Cx.inExc X (some (.ref a)) _) Im hg hc2 (zbz I1.kIn (zi8 m) h1 h2 h3 h4 ?_) hdb)) (by intro q;cases q);refine hr pins σ H H0 H' s s' ρ ρ' ev S1 S' o cls a C dx D I m os hb hE e1 hS ht hC ?_ k;unfold zn4 hAs at hf;rw[z2w hct,z2v hnt]at hf;exact hf
   · unfold zn4 hAs at hf;rw[z2w hct,z2w hnt]at hf;cases hf
theorem ztg(hs:∀v xe,FSs (Cx.inExc X v xe) (b0::suite) d)(hcat:∀c,cat c=true->CatB X.K X.mg c T true)(hno:∀c,no c=true->CatB X.K X.mg c T false)(hr:HS X rest f)
   (hg:Gl X T:=by rfl) (hdb:(T==("__debug__":Str))=false:=by decide) :
   HS X (.ExceptHandler (some (.Name T np)) none (b0::suite) pos'::rest) (hAs cat none d no f):=by
 intro pins σ H H0 H' s s' ρ ρ' ev S1 S' o cls a C dx D I m os hb hE e1 hS ht hC hf k;have I1:=m.inv I os hb rfl;have Im:=Inv.toExc I1 (some (.ref a)) (notedBy (model X.prog X.w) (X.A.mark (some (.ref a))) X.env (cameBackBy (model X.prog X.w) X.A X.env X.xe));by_cases hct:cat cls=true
 · obtain⟨C',CT,hc1,hc2,h1,h2,h3,h4⟩:=hcat cls hct;rw[hC]at hc1;cases hc1;unfold zn4 hAs at hf;rw[z2v hct]at hf;replace hf:((d ev S1).bind fun q=>(match q.1 with
     | .nx e=>some (Out.nx e,q.2)
     | .rt x=>some (.rt x,q.2)
     |_=>none))=some (o,S'):=hf
   refine z4h (z38 (kn (X:=Cx.inExc X (some (.ref a)) _) Im hg hc2 (zbz I1.kIn (zi8 m) h1 h2 h3 h4 ?_) hdb)) (by intro q;cases q);refine codeAny_handlers_suite (zmc m I os hb fun h6 m6=>?_);have I6:=m6.inv (s':={ s' with heap:=h6 }) I os hb rfl;have I6m:=Inv.toExc I6 (some (.ref a)) (notedBy (model X.prog X.w) (X.A.mark (some (.ref a))) X.env (cameBackBy (model X.prog X.w) X.A X.env X.xe));obtain⟨⟨o2,S2⟩,q2,hf⟩:=zy hf;have go:=hs (some (.ref a)) _ pins { s' with heap:=h6 } _ _ { nx:=D.nx,rt:=D.rt,bk:=fun _ _=>False,ct:=fun _ _=>False } I6m ⟨_,_,_,o2,S2,hE.mono e1,hS,q2,by
     cases o2 with
     |nx e=>cases hf;exact fun σ' ρ2 H2 x1 x2 x3=>k _ ρ2 H2 (e1.trans x1) x2 x3
     |rt x=>cases hf;exact fun v ρ2 H2 x1 x2 x3=>k v ρ2 H2 (e1.trans x1) x2 x3
     |_=>cases hf⟩
   refine thn go fun f s8 q=>?_;cases f with
   | next=>
     obtain⟨σ8,H8,I8,q⟩:=q;exact⟨σ8,H8,Inv.ofExc I8 I.ok,q⟩
   | ret u=>
     obtain⟨v,σ8,H8,I8,r8,q⟩:=q;exact⟨v,σ8,H8,Inv.ofExc I8 I.ok,r8,q⟩
   |brk=>obtain⟨_,_,_,q⟩:=q;exact q.elim
   |cont=>obtain⟨_,_,_,q⟩:=q;exact q.elim
 · by_cases hnt:no cls=true
   · obtain⟨C',CT,hc1,hc2,h1,h2,h3,h4⟩:=hno cls hnt;rw[hC]at hc1;cases hc1;refine z4h (z38 (kn (X:=Cx.inExc X (some (.ref a)) _) Im hg hc2 (zbz I1.kIn (zi8 m) h1 h2 h3 h4 ?_) hdb)) (by intro q;cases q);refine hr pins σ H H0 H' s s' ρ ρ' ev S1 S' o cls a C dx D I m os hb hE e1 hS ht hC ?_ k;unfold zn4 hAs at hf;rw[z2w hct,z2v hnt]at hf;exact hf
   · unfold zn4 hAs at hf;rw[z2w hct,z2w hnt]at hf;cases hf
end
section
variable {M:Model}{A:Around}{E:zVP}{s:Shared}{env:Env}
theorem zkw{bd els:Sem Flow}{k₀:ExceptHandler}{ks:List ExceptHandler}{Q:Flow->Shared->Prop}
   (h:wpAny M A bd (fun f s₁=>match f with | .next=>wpAny M A els Q E s₁ | f=>Q f s₁) (fun e s₁=>wpAny M A (leaving env e) (fun _ s₂=>wpAny M A (handleBy e env (k₀::ks)) Q E s₂) E s₁) s) :
   wpAny M A (tryStmt false bd (k₀::ks) els [] env) Q E s:=by
 unfold tryStmt;simp only[List.isEmpty_nil,z37,List.isEmpty_cons,z21,z36,z5h];refine z12 (z5n (z43 h (fun f s₁ h₁=>?_) fun e s₁ h₁=>?_))
 · cases f<;>first | exact h₁ | exact z2a h₁
 · show wpAny M A (noteFrame e env >>= fun _=>setFlight e none >>= fun _=>handleBy e env (k₀::ks)) Q E s₁;rw[<-bind_assoc];exact z12 h₁
end
section
variable {X:Cx}{body suite:List Stmt}{b0:Stmt}{c d:C}{r:R}{T n:Str}{np pos' pos:Pos}{cat:Str->Bool}
theorem zmy{h0:ExceptHandler}{hs:List ExceptHandler}{f:Str->Option (Option Nat×C)}(hb:∀xe,FSs (X.wish xe) body c)(hr:∀xe,RTs (X.wish xe) body r)(hh:HS X (h0::hs) f)(hcl:∀c p,f c=some p->∃C,X.mg c=some (.ref C))
   (hst:X.stack=X.env::X.outer/\X.env.frame=some X.env.locals:=by exact⟨rfl,rfl⟩) :
   FS X (.Try body (h0::hs) [] [] pos) (zea c r f):=by
 intro pins s σ H D I t;obtain⟨ρ,ev,S,o,S',hE,hS,hf,k⟩:=t;rw[arm_exec_Try];refine z12 (z42 (zkw ?_));generalize hW:(fun e s₁=>wpAny (model X.prog X.w) X.A (leaving X.env e) (fun _ s₂=>wpAny (model X.prog X.w) X.A (handleBy e X.env (h0::hs)) (SP X pins D) X.xe s₂) X.xe s₁)=W;unfold zea at hf;split at hf
 · rename_i e1 S1 q;cases hf;refine thn (hb W pins s σ H { nx:=D.nx,rt:=fun _ _=>False } (I.wish W) ⟨ρ,ev,S,.nx e1,_,hE,hS,q,k⟩) fun f s1 z=>?_;cases f with
   | next=>
     obtain⟨σ1,H1,I1,z⟩:=z;exact z4l ⟨σ1,H1,I1.unwish,z⟩
   |ret u=>obtain⟨_,_,_,_,_,z⟩:=z;exact z.elim
   |brk=>obtain⟨_,_,_,z⟩:=z;exact z.elim
   |cont=>obtain⟨_,_,_,z⟩:=z;exact z.elim
 · rename_i x1 S1 q;cases hf;refine thn (hb W pins s σ H { nx:=fun _ _=>False,rt:=D.rt } (I.wish W) ⟨ρ,ev,S,.rt x1,_,hE,hS,q,k⟩) fun f s1 z=>?_;cases f with
   |next=>obtain⟨_,_,_,z⟩:=z;exact z.elim
   | ret u=>
     obtain⟨v,σ1,H1,I1,r1,z⟩:=z;exact⟨v,σ1,H1,I1.unwish,r1,z⟩
   |brk=>obtain⟨_,_,_,z⟩:=z;exact z.elim
   |cont=>obtain⟨_,_,_,z⟩:=z;exact z.elim
 · cases hf
 · obtain⟨⟨cls,S1⟩,q1,hf⟩:=zy hf;dsimp only at hf;obtain⟨C,hC⟩:∃C,X.mg cls=some (.ref C):=by obtain⟨p,q,_⟩:=zy hf;exact hcl cls p q
   refine hr W pins s σ H (fun e oC H'=>∃ρ',oC=some C/\Ext ρ H ρ' H'/\StOk X.K X.mg ρ' H' S1/\zx3 cls S1 ρ' e) _ ?_ (I.wish W) ⟨ρ,ev,S,cls,S1,hE,hS,q1,C,hC,fun e ρ' H' x1 x2 x3=>⟨ρ',rfl,x1,x2,x3⟩⟩;subst hW;refine⟨fun {H1 s1 a C1 dx H' s'} I1 os hg un hok bn hE1=>?_,fun {H1 s1 e s2} I1 hx1=>?_⟩
   · obtain⟨ρ',rfl',x1,x2,x3⟩:=hE1;cases rfl';exact zmd I1.unwish os hg un hok bn hst fun h' m=>hh _ _ _ _ _ _ _ _ _ _ _ _ _ _ _ _ _ _ I1.unwish m os hg hE x1 x2 x3 hC hf k
   · obtain⟨a,C1,dx,H',rfl,os,bare,un,hok,fl,ρ',rfl',x1,x2,x3⟩:=hx1;cases rfl';exact zo7 ⟨un,hok,fl⟩ I1.unwish os bare hst fun h' m=>hh _ _ _ _ _ _ _ _ _ _ _ _ _ _ _ _ _ _ I1.unwish m os bare hE x1 x2 x3 hC hf k
end
def zch:List Value:=[.type "ValueError",.type "Exception",.type "BaseException",.type "object"]
theorem zey{K:zFr}:∀{l:List Value},tailIn K zch l=true->l.contains (.type "BaseException")=true
 | [],e=>by cases(z3k.mp e)
 | v::r,e=>by
   unfold tailIn at e;rcases Bool.or_eq_true_iff.mp e with q | q
   · rw[z3k.mp q];decide +kernel
   · split at q
     · split at q
       · simp only[z2t,z3k]at q;rw[List.contains_cons,zey q.2,Bool.or_true]
       · cases q
     · cases q
theorem zxf{K:zFr}{mg:zMg}{c:Str}{C:Addr}(hm:mg c=some (.ref C))(q:excIn K C zch "ValueError.__new__"=true):ExcCls K mg c:=by
 unfold excIn at q;split at q
 · rename_i dd cd sl ho;split at q
   · rename_i C' bm k0 k1 k2 k3 n k5 hmro hs;simp only[z2t,z3k,Bool.not_eq_true']at q;obtain⟨⟨⟨⟨⟨rfl,rfl⟩,hdel⟩,ht⟩,hok⟩,hni⟩:=q;obtain⟨nm,bs,mro,ns,qn,hd,sn,sub,ab,col,del⟩:=cd;dsimp only at hmro hdel hok hni;subst hmro;subst hdel;have hsl:sl=#[k0,k1,k2,k3,some (.builtin "ValueError.__new__"),k5]:=by
       cases sl with
       |mk l=>simp only at hs;subst hs;rfl
     subst hsl;unfold nsOkIn at hok;split at hok
     · rename_i oc od es ep osl hN;have hk:StrKeys es:=fun e he=>by
         have z:=z4r.mp hok e he;cases hkey:e.key with
         |str n t=>exact⟨n,t,rfl⟩
         |_=>rw[hkey]at z;cases z
       have hi:nsFind es "__init__"=none:=by
         unfold nsIn at hni;rw[hN]at hni;dsimp only at hni;split at hni
         · cases hni
         · rename_i he;unfold nsFind findBy;rw[<-z5e,he];rfl
       refine⟨_,ns,nm,qn,bs,bm,zch,hd,sn,sub,ab,col,dd,k0,k1,k2,k3,k5, "ValueError", "ValueError.__new__", "ValueError.__init__",nsFind es,hm,z4a,?_,hi,fun h X=>⟨X _ _ ho,⟨_,es,ep,X _ _ hN,rfl,hk,fun _=>rfl⟩,tail_of_in X ht⟩⟩;exact zey ht
     · cases hok
   · cases q
 · cases q
def ExcI(K:zFr)(mg:zMg)(c:Str):Prop:=∃C,mg c=some (.ref C)/\ExcIs K C/\kitOne K (.ref C) (.type "ValueError")=some true
def IsF(K:zFr)(mg:zMg)(c d:Str)(b:Bool):Prop:=∃C D,mg c=some (.ref C)/\mg d=some (.ref D)/\kitOne K (.ref C) (.ref D)=some b
structure Up where
 raised:List Str
 asked:List Str
def Up.is(u:Up)(c d:Str):Option Bool:=if c∈u.raised/\d∈u.asked then some (decide (d=c\/d="ShelfError"))else none
def ztp:List D->Option (List Str)
 | []=>some []
 | .fn d::r=>(ztp r).map (d::·)
 |_=>none
def Up.any(u:Up)(c:Str):List Str->Option Bool
 | []=>some false
 |d::r=>(u.is c d).bind fun b=>if b=true then some true else u.any c r
def Up.ask(u:Up)(c:Str):D->Option Bool
 | .fn d=>u.is c d
 | .ty n=>if c∈u.raised/\n="ValueError" then some true else none
 | .tup ds=>if c∈u.raised then (ztp ds).bind (u.any c)else none
 |_=>none
def zkc(u:Up)(S:Sto):List D->Option D
 | [.obj i,d]=>match S[i]? with
   |some (.exc c)=>(u.ask c d).map .bl
   |some (.xc c _)=>(u.ask c d).map .bl
   |_=>none
 |_=>none
structure UpOk (K:zFr) (mg:zMg) (u:Up):Prop where
 ct:∀c∈u.raised,Cat K mg c "ShelfError"
 ei:∀c∈u.raised,ExcI K mg c
 is_:∀c∈u.raised,∀d∈u.asked,IsF K mg c d (decide (d=c\/d="ShelfError"))
section
variable {X:Cx}{e:Expr}{es:List Expr}{g:As}{p pos:Pos}{u:Up}
def z0u(K:zFr)(mg:zMg):List V->Hp->VK->Prop:=fun xs H Q=>∃a C b y,xs=[.ref a,y]/\(∃φ,H a=some (.ext φ)/\∀h,φ h->OfCls a C h)/\ExcIs K C /\
 ((∃w,RelV y w/\(∀w',RelV y w'->w'=w)/\kitOne K (.ref C) w=some b)\/(∃q ys its,y=.ref q/\SqT K H q ys/\Vals ys its/\(∀its',Vals ys its'->its'=its)/\kitAny K (.ref C) its=some b))/\Q (.bl b) H
theorem zpw:CallR X (.builtin "isinstance") (z0u X.K X.mg):=by
 intro pins s σ H xs us Q I r h;obtain⟨a,C,b,y,rfl,ha,hz,hk,q⟩:=h;obtain⟨u1,u2,rfl,r1,r2⟩:∃u1 u2,us=[u1,u2]/\RelV (.ref a) u1/\RelV y u2:=by
   cases r with
   | cons p q=>
     cases q with
     |cons p' q'=>cases q';exact⟨_,_,rfl,p,p'⟩
 cases(show u1=Value.ref a from r1);obtain⟨φ,ha,hφ⟩:=ha;have oc:OfCls a C s.heap:=hφ _ (I.hok a _ ha).1;rcases hk with⟨w,rw_,un,hk⟩ | ⟨q',ys,its,rfl,sq,vs,un,hk⟩
 · rw[un _ r2];exact kia_one (zjb hz) I.kIn oc hk (fun z=>nomatch z) fun tk=>⟨.bl _,H,I.tok tk,rfl,q⟩
 · cases(show u2=Value.ref q' from r2);obtain⟨its2,v2,⟨o,h1,h2,h3⟩,_⟩:=I.tuple sq;rw[un _ v2]at h3;obtain⟨oc',od,odt,osl⟩:=o;obtain⟨n,h3⟩:=h3;dsimp only at h2 h3;subst h2;subst h3;exact kia_tup (zjb hz) I.kIn oc h1 hk (fun z=>nomatch z) fun tk=>⟨.bl _,H,I.tok tk,rfl,q⟩
theorem zqt{K:zFr}{mg:zMg}{ρ:List Addr}{H:Hp}:∀{ds:List D}{xs:List Str}{ys:List V},ztp ds=some xs->RepL K mg ρ H ds ys->∃as:List Addr,ys=as.map V.ref/\xs.map mg=as.map fun a=>some (Value.ref a)
 | [],xs,ys,e,r=>by unfold RepL at r;subst r;cases e;exact⟨[],rfl,rfl⟩
 | d::ds,xs,ys,e,r=>by
   unfold RepL at r;obtain⟨v,r',rfl,h1,h2⟩:=r;cases d with
   | fn d=>
     obtain⟨l,e1,e2⟩:=zbf e;subst e2;unfold Rep at h1;obtain⟨A,rfl,hA⟩:=h1;obtain⟨as,q1,q2⟩:=zqt e1 h2;exact⟨A::as,by rw[q1];rfl,by rw[z2o,z2o,hA,q2]⟩
   |_=>cases e
theorem zbl:∀(as:List Addr),Vals (as.map V.ref) (as.map Value.ref)/\∀its,Vals (as.map V.ref) its->its=as.map Value.ref
 | []=>⟨.nil,fun its h=>by cases h;rfl⟩
 | a::as=>⟨.cons rfl (zbl as).1,fun its h=>by
   cases h with
   |cons p q=>rw[(zbl as).2 _ q,show _=Value.ref a from p];rfl⟩
theorem zq9{K:zFr}{mg:zMg}(h:UpOk K mg u){c:Str}{C:Addr}(hc:c∈u.raised)(hC:mg c=some (.ref C)):∀{xs:List Str}{as:List Addr}{b:Bool},xs.map mg=(as.map fun a=>some (Value.ref a))->u.any c xs=some b ->
   kitAny K (.ref C) (as.map Value.ref)=some b
 | [],as,b,q,e=>by
   cases as with
   |nil=>cases e;rfl
   |cons _ _=>cases q
 | d::xs,as,b,q,e=>by
   cases as with
   |nil=>cases q
   | cons A as=>
     rw[z2o,z2o,z3p]at q;obtain⟨b1,e1,e2⟩:=zy e;unfold Up.is at e1;split at e1
     · rename_i hz;obtain⟨C',D',x1,x2,x3⟩:=h.is_ c hc d hz.2;rw[hC]at x1;cases x1;rw[q.1]at x2;cases x2;rw[z2n e1]at x3;unfold List.map kitAny;rw[x3];cases b1 with
       |true=>rw[z2v rfl]at e2;exact e2
       |false=>rw[z2w (by decide)]at e2;exact zq9 h hc hC q.2 e2
     · cases e1
theorem zr1{K:zFr}{mg:zMg}(h:UpOk K mg u):zn0 K mg (z0u K mg) (zkc u):=by
 intro ρ H S xs ds d Q hS r e k;unfold zkc at e;split at e
 · rename_i i d';obtain⟨c,e0,hw⟩:∃c,(u.ask c d').map D.bl=some d/\∀a,ρ[i]? = some a->∃C,mg c=some (.ref C)/\∃φ,H a=some (.ext φ)/\∀h,φ h->OfCls a C h:=by
     split at e
     · rename_i c hi;refine⟨c,e,fun a ha=>?_⟩;obtain⟨C,hC,hH⟩:=hS.ob i _ a hi ha;exact⟨C,hC,_,hH,fun _ z=>z⟩
     · rename_i c j hi;refine⟨c,e,fun a ha=>?_⟩;obtain⟨C,dx,hC,_,hH⟩:=hS.ob i _ a hi ha;exact⟨C,hC,_,hH,fun _ ⟨o,_,z1,z2,_⟩=>⟨o,z1,z2⟩⟩
     · cases e
   clear e;obtain⟨b,e1,e2⟩:=zbf e0;subst e2;obtain⟨v,w,rfl,r1,r2⟩:=two r;unfold Rep at r1;obtain⟨a,rfl,ha⟩:=r1;obtain⟨C,hC,hH⟩:=hw a ha;unfold Up.ask at e1;split at e1
   · rename_i dn;unfold Rep at r2;obtain⟨A,rfl,hA⟩:=r2;unfold Up.is at e1;split at e1
     · rename_i hz;obtain⟨C',D',x1,x2,x3⟩:=h.is_ c hz.1 dn hz.2;rw[hC]at x1;cases x1;rw[hA]at x2;cases x2;rw[z2n e1]at x3;obtain⟨C',y1,y2,_⟩:=h.ei c hz.1;rw[hC]at y1;cases y1;exact⟨a,C,b,_,rfl,hH,y2,.inl ⟨.ref A,rfl,fun _ z=>z,x3⟩,k _ H (Ext.refl _ _) hS rfl⟩
     · cases e1
   · rename_i n;split at e1
     · rename_i hz;cases e1;obtain⟨C',y1,y2,y3⟩:=h.ei c hz.1;rw[hC]at y1;cases y1;rw[show w=.ty n from r2,hz.2];exact⟨a,C,true,_,rfl,hH,y2,.inl ⟨.type "ValueError",rfl,fun _ z=>z,y3⟩,k _ H (Ext.refl _ _) hS rfl⟩
     · cases e1
   · rename_i ds';split at e1
     · rename_i hz;obtain⟨xs,e1,e2⟩:=zy e1;obtain⟨p,vs,rfl,tt,rl⟩:=r2.refT;obtain⟨as,q1,q2⟩:=zqt e1 rl;obtain⟨C',y1,y2,y3⟩:=h.ei c hz;rw[hC]at y1;cases y1;refine⟨a,C,b,_,rfl,hH,y2,.inr ⟨p,vs,as.map Value.ref,rfl,tt.sq,?_,?_,zq9 h hz hC q2 e2⟩,k _ H (Ext.refl _ _) hS rfl⟩
       · rw[q1];exact(zbl as).1
       · rw[q1];exact(zbl as).2
     · cases e1
   · cases e1
 · cases e
theorem zet(h:UpOk X.K X.mg u)(hm:X.mg "isinstance"=none)(ha:FA X (e::es) g)(hg:Gl X "isinstance":=by rfl)(he:starEach (e::es) X.env=(false,eval e X.env)::starEach es X.env:=by exact zx rfl)(hpl:(backTo pos (starEach es X.env)).any (·.1)=false:=by exact qt rfl) :
   FE X (.Call (.Name "isinstance" p) (e::es) [] pos) (eA (zkc u) g) :=
 zdt zpw (zr1 h) hm (by with_unfolding_all rfl) ha hg (by decide) (by decide) he hpl
end
def z03:D->Option D
 | .int a=>if a.natAbs.log2<1920 then some (.str (toString a))else none
 | .str x=>if x.length<=sizeLine then some (.str x)else none
 |_=>none
section
variable {K:zFr}{mg:zMg}{h:Heap}
theorem zfp{C:Addr}(h8:hasDictIn K C=true):(clsIn K C).isSome=true:=by obtain⟨cd,hc,_⟩:=any_some h8;rw[hc];rfl
theorem has_exc(KX:K.In h)(G:h.Ns mainGlobals mg){c:Str}{C:Addr}(a:nsIn K mainGlobals c=some (some (.ref C)))(q:excIn K C zch "ValueError.__new__"=true):ExcCls K mg c:=zxf (mg_of KX G a) q
theorem has_ei(KX:K.In h)(G:h.Ns mainGlobals mg){c:Str}{C:Addr}(a:nsIn K mainGlobals c=some (some (.ref C)))(h1:findIn K (.ref C) "__getattribute__"=some (some (.builtin "BaseException.__getattribute__")))(h2:findIn K (.ref C) "__getattr__"=some none)
   (h3:findIn K (.ref C) "__class__"=some (some (.builtin "object.__class__"))) (h4:specialIn K (.builtin "object.__class__") "__get__"=some (some (.builtin "getset_descriptor.__get__"))) (h5:takesIn K (.builtin "object.__class__")=some true) (h6:mroIn K C (.type "object")=some true)
   (h7:mroIn K C (.type "BaseException")=some true) (h8:hasDictIn K C=true) (h9:kitOne K (.ref C) (.type "ValueError")=some true):ExcI K mg c:=⟨C,mg_of KX G a,⟨h1,h2,h3,h4,h5,h6,h7,zfp h8⟩,h9⟩
theorem has_is(KX:K.In h)(G:h.Ns mainGlobals mg){c d:Str}{C D:Addr}{b:Bool}(a:nsIn K mainGlobals c=some (some (.ref C)))(a':nsIn K mainGlobals d=some (some (.ref D)))(q:kitOne K (.ref C) (.ref D)=some b):IsF K mg c d b:=⟨C,D,mg_of KX G a,mg_of KX G a',q⟩
theorem has_cat(KX:K.In h)(G:h.Ns mainGlobals mg){c d:Str}{C D:Addr}(a:nsIn K mainGlobals c=some (some (.ref C)))(a':nsIn K mainGlobals d=some (some (.ref D)))(h1:mroIn K C (.ref D)=some true)(h2:mroIn K D (.type "BaseException")=some true)
   (h3:typeIn K (.ref D)=some (.type "type")) (h4:hasDictIn K D=true):Cat K mg c d:=⟨C,D,mg_of KX G a,mg_of KX G a',h1,h2,h3,zfp h4⟩
theorem has_val(KX:K.In h)(G:h.Ns mainGlobals mg){c:Str}{C:Addr}(a:nsIn K mainGlobals c=some (some (.ref C))):∃f,mg c=some (.ref f):=⟨C,mg_of KX G a⟩
theorem is_of{c d:Str}{b:Bool}(h:IsF K mg c d b)(e:b=decide (d=c\/d="ShelfError"):=by decide +kernel):IsF K mg c d (decide (d=c\/d="ShelfError")):=e▸h
theorem all_nil{P:Str->Prop}:∀x∈([]:List Str),P x:=fun _ h=>nomatch h
theorem all_cons{P:Str->Prop}{a:Str}{l:List Str}(h:P a)(t:∀x∈l,P x):∀x∈a::l,P x:=fun x hx=>by
 rcases z2l.mp hx with rfl | hx
 · exact h
 · exact t x hx
theorem boot_ValueError:bootBuiltins "ValueError"=some (.type "ValueError"):=by with_unfolding_all rfl
end
section
variable {P:Program}{w:World}{K:zFr}{mg:zMg}{base:Heap}{x c m qual:Str}{st:Stmt}{N ps:List Str}{k:Nat}{r:R}
def zx5(P:Program)(w:World)(K:zFr)(mg:zMg)(base:Heap)(N:List Str)(qual:Str)(st:Stmt)(k:Nat)(r:R):Prop :=
 ∀(f:Addr) (cdv:Value) (A:Around) (outer:List Env) (s:Shared) (H:Hp) (E:XK),Room k (A.deeper (envOfC qual (zi st) s.heap.objs.size f cdv))->RSs (zd8 (CX1 P w) P w K mg base N qual (zi st) f cdv A outer s H E) (j0 st) r
theorem HasDef.rcal(h:HasDef K mg x st 0)(S:FnScope N ps (zi st))(hb:zrc x x st ps)(hbody:zx5 P w K mg base N x st k r):RCal P w K mg base (k+1) x (zcg N.length ps.length r):=by obtain⟨f,fd,dV,F,hm,rfl⟩:=h.ex;exact⟨f,fd,ps,[],[],[],_,F.rok S fun cdv A outer s H E hr=>hbody f cdv A outer s H E hr,hm,F.kp,F.binds0 hb,.nil,fun _ _=>RepL.nil,fun args S r e=>by rw[z2y];exact e⟩
theorem HasMth.rmth(h:HasMth K mg c m qual st)(S:FnScope N ps (zi st))(hb:zrc m qual st ps)(hbody:zx5 P w K mg base N qual st k r):RMth P w K mg base (k+1) c m (zcg N.length ps.length r):=by obtain⟨C,f,fd,F,hm,hc,hme⟩:=h.ex;exact⟨C,f,fd,ps,[],[],[],_,F.rok S fun cdv A outer s H E hr=>hbody f cdv A outer s H E hr,hm,hc,hme,F.binds0 hb,.nil,fun _ _=>RepL.nil,fun args S r e=>by rw[z2y];exact e⟩
end
section
variable {X:Cx}{K:zFr}{mg:zMg}{e a b:Expr}{es:List Expr}{f g:E}{ga:As}{p pos:Pos}
def zug(_:Sto):List D->Option D
 | [.int i]=>some (.int i)
 | [.bl b]=>some (.int (if b then 1 else 0))
 |_=>none
theorem zr3:zn0 K mg (fun xs H Q=>(∃i,xs=[.int i]/\Q (.int i) H)\/∃k,xs=[.bl k]/\Q (.int (if k then 1 else 0)) H) zug:=by
 intro ρ H S xs ds d Q hS r e k;unfold zug at e;split at e
 · cases e;obtain⟨v,rfl,r1⟩:=one r;exact .inl ⟨_,by rw[show v=.int _ from r1],k _ H (Ext.refl _ _) hS rfl⟩
 · cases e;obtain⟨v,rfl,r1⟩:=one r;exact .inr ⟨_,by rw[show v=.bl _ from r1],k _ H (Ext.refl _ _) hS rfl⟩
 · cases e
theorem zpo(hm:X.mg "int"=none)(ha:FA X (e::es) ga)(hg:Gl X "int":=by rfl)(he:starEach (e::es) X.env=(false,eval e X.env)::starEach es X.env:=by exact zx rfl)(hpl:(backTo pos (starEach es X.env)).any (·.1)=false:=by exact qt rfl) :
   FE X (.Call (.Name "int" p) (e::es) [] pos) (eA zug ga):=zz7 znq zr3 hm zp3 ha hg (by decide) (by decide) he hpl
end
end F
namespace F
open PySem L2 PySem.Spec PyProof.Rows PySem.W
def H0(ts:List Addr)(so:Option (Addr×HO)):Hp:=fun b=>if b∈ts then some (.tbl #[])else match so with
 |some (a,o)=>if b=a then some o else none
 |none=>none
section
variable {K:Frag}{h:Heap}{mg:zMg} (X:K.In h) (G:h.Ns mainGlobals mg)
include X G
end
end F
namespace F
open PySem L2 PySem.Spec PySem.Calls PyProof.Rows PySem.W
def onC(H H0:Hp)(cl:zLA):Hp:=fun b=>if b∈cl.map (·.2)then H0 b else H b
def isI:D->Bool
 | .int _=>true
 |_=>false
def trk(H:Hp)(h:Heap)(cl:zLA):Hp:=onC H (fun b=>(h.get? b).map fun o=>.frz o (.own 0)) cl
end F
namespace F
open PySem L2 PySem.Spec PyProof.Rows
def yu(g:As):E:=fun ev S=>(g ev S).bind fun q=>match q.1 with
 | [.tup ds]=>some (.lst ds,q.2)
 | [.lst ds]=>some (.lst ds,q.2)
 | [.obj i]=>(match q.2[i]? with
   |some (.lst ds)=>some (.lst ds,q.2)
   |_=>none)
 |_=>none
section
variable {X:Cx}{e:Expr}{es:List Expr}{f:E}{g:As}{p pos:Pos}
theorem zbv(hm:X.mg "list"=none)(ha:FA X (e::es) g)(hg:Gl X "list":=by rfl)(he:starEach (e::es) X.env=(false,eval e X.env)::starEach es X.env:=by exact zx rfl)(hpl:(backTo pos (starEach es X.env)).any (·.1)=false:=by exact qt rfl):FE X (.Call (.Name "list" p) (e::es) [] pos) (yu g) :=
 jo (zgn zg0 hg hm zhb ha (by decide) (by decide) he hpl) fun σ H Q h=>by
   obtain⟨ρ,ev,S,d,S',hE,hS,hf,k⟩:=h;obtain⟨⟨x,S1⟩,q1,hf⟩:=zy hf;refine⟨ρ,ev,S,x,S1,hE,hS,q1,fun vs ρ1 H1 E1 hS1 r1=>?_⟩;have fin:∀{us:List V}{ds:List D},RepL X.K X.mg ρ1 H1 ds us->(d,S')=(D.lst ds,S1)->∀l,H1 l=none->Q (.ref l) (upd H1 l (.lst us)):=by intro us ds r e l hl;cases e;exact k _ ρ1 _ (E1.trans (x9 hS1 _ hl)) (hS1.new _ hl) (Rep.lst (s:=hS1) hl r)
   dsimp only at hf;split at hf
   · obtain⟨v,rfl,r⟩:=one r1;obtain⟨b,us,rfl,t,r⟩:=r.refT;exact⟨b,us,rfl,.inr t.sq,fin r (z2n hf).symm⟩
   · obtain⟨v,rfl,r⟩:=one r1;obtain⟨b,us,rfl,t,r⟩:=r.refL;exact⟨b,us,rfl,.inl t.sq,fin r (z2n hf).symm⟩
   · rename_i i _;split at hf
     · rename_i ds eu;obtain⟨v,rfl,r⟩:=one r1;unfold Rep at r;obtain⟨a,rfl,ea⟩:=r;obtain⟨us,m1,m2⟩:=hS1.ob _ _ a eu ea;exact⟨a,us,rfl,.inl (.of m1),fin m2 (z2n hf).symm⟩
     · cases hf
   · cases hf
end
mutual
def frd(n:Nat)(S:Sto):D->Option D
 | .obj i=>if i<n then some (.obj i)else (match S[i]? with
   |some (.lst us)=>if bndL n us=true then some (.lst us)else none
   |_=>none)
 | .tup ds=>(frdL n S ds).map .tup
 |d=>if bnd n d=true then some d else none
def frdL(n:Nat)(S:Sto):List D->Option (List D)
 | []=>some []
 |d::ds=>(frd n S d).bind fun x=>(frdL n S ds).map (x::·)
end
def frz2(g:G):G:=fun ds S=>(g ds S).bind fun r=>if(r.2.take S.length).all (zie S.length)=true then (frd S.length r.2 r.1).map fun d=>(d,r.2.take S.length)else none
section
variable {K:zFr}{mg:zMg}{ρ ρ':List Addr}{H H':Hp}{S S1:Sto}{n:Nat}
theorem x5{d d':D}(e:frd n S d=(if bnd n d=true then some d else none))(h:frd n S d=some d'):bnd n d=true/\d'=d:=by
 rw[e]at h;split at h
 · rename_i z;cases h;exact⟨z,rfl⟩
 · cases h
mutual
theorem Rep.frd(hS:StOk K mg ρ H S):∀{d d':D}{v:V},frd n S d=some d'->Rep K mg ρ H d v->Rep K mg (ρ.take n) H d' v
 | .obj i,d',v,hf,r1=>by
   unfold F.frd at hf;split at hf
   · rename_i hi;cases hf;exact r1.cut (by unfold bnd;exact z2g hi)
   · rename_i hi;split at hf
     · rename_i us eu;split at hf
       · rename_i hu;cases hf;unfold Rep at r1;obtain⟨a,rfl,ea⟩:=r1;obtain⟨ws,m1,m2⟩:=hS.ob i _ a eu ea;unfold Rep;refine⟨a,ws,rfl,.inl ⟨fun z=>?_,.inl m1⟩,m2.cut hu⟩;obtain⟨j,hj,ej⟩:=List.getElem_of_mem z;rw[z2d]at hj;rw[List.getElem_take]at ej;have hj2:j<ρ.length:=by omega
         have e3:ρ[j]? = ρ[i]?:=by rw[ea,z19 hj2,ej]
         have:=(List.getElem?_inj hj2 hS.nd).mp e3;omega
       · cases hf
     · cases hf
 | .tup ds,d',v,hf,r1=>by unfold F.frd at hf;obtain⟨ds',q,hf⟩:=zbf hf;subst hf;unfold Rep at r1 ⊢;obtain⟨p,vs,e1,t,r⟩:=r1;exact⟨p,vs,e1,t.cut,RepL.frd hS q r⟩
 | .lst ds,d',v,hf,r1=>by obtain⟨z,rfl⟩:=x5 (by unfold F.frd;rfl) hf;exact r1.cut z
 | .non,d',v,hf,r1=>by obtain⟨z,rfl⟩:=x5 (by unfold F.frd;rfl) hf;exact r1.cut z
 | .bl _,d',v,hf,r1=>by obtain⟨z,rfl⟩:=x5 (by unfold F.frd;rfl) hf;exact r1.cut z
 | .int _,d',v,hf,r1=>by obtain⟨z,rfl⟩:=x5 (by unfold F.frd;rfl) hf;exact r1.cut z
 | .str _,d',v,hf,r1=>by obtain⟨z,rfl⟩:=x5 (by unfold F.frd;rfl) hf;exact r1.cut z
 | .fn _,d',v,hf,r1=>by obtain⟨z,rfl⟩:=x5 (by unfold F.frd;rfl) hf;exact r1.cut z
 | .ty _,d',v,hf,r1=>by obtain⟨z,rfl⟩:=x5 (by unfold F.frd;rfl) hf;exact r1.cut z
 | .lam _,d',v,hf,r1=>by obtain⟨z,rfl⟩:=x5 (by unfold F.frd;rfl) hf;exact r1.cut z
 | .clo _ _,d',v,hf,r1=>by obtain⟨z,rfl⟩:=x5 (by unfold F.frd;rfl) hf;exact r1.cut z
theorem RepL.frd(hS:StOk K mg ρ H S):∀{ds ds':List D}{vs:List V},frdL n S ds=some ds'->RepL K mg ρ H ds vs->RepL K mg (ρ.take n) H ds' vs
 | [],_,_,hf,h=>by unfold F.frdL at hf;cases hf;exact h
 | d::ds,_,_,hf,h=>by unfold F.frdL at hf;obtain⟨x,q1,hf⟩:=zy hf;obtain⟨xs,q2,hf⟩:=zbf hf;subst hf;unfold RepL at h ⊢;obtain⟨v,r,e,h1,h2⟩:=h;exact⟨v,r,e,Rep.frd hS q1 h1,RepL.frd hS q2 h2⟩
end
theorem zto{g:G}(vs:List V)(H:Hp)(Q:VK)(E:XK)(h:spG K mg (frz2 g) vs H Q E):spG K mg g vs H Q E:=by
 obtain⟨ρ,ds,S,d,S',hr,hS,hf,k⟩:=h;obtain⟨⟨d1,S1⟩,q1,hf⟩:=zy hf;refine⟨ρ,ds,S,d1,S1,hr,hS,q1,fun v ρ' H' E1 hS1 r1=>?_⟩;dsimp only at hf;split at hf
 · rename_i hb;obtain⟨x,q2,hf⟩:=zbf hf;cases hf;exact k v _ H' (E1.cut hS.len) (hS1.cut hb) (r1.frd hS1 q2)
 · cases hf
end
theorem Cal.frz2{P:Program}{w:World}{K:zFr}{mg:zMg}{base:Heap}{k:Nat}{x:Str}{g:G}(c:Cal P w K mg base k x g):Cal P w K mg base k x (frz2 g):=by obtain⟨f,fd,ps,ds,dvs,dds,gg,FF,hm,hk,hb,hd,hdd,hg⟩:=c.ex;refine⟨f,fd,ps,ds,dvs,dds,_root_.F.frz2 gg,FnOk.imp FF zto,hm,hk,hb,hd,hdd,fun args S r e=>?_⟩;obtain⟨r0,q,e⟩:=zy e;show(gg (args++dds) S).bind _=_;rw[hg args S r0 q];exact e
end F
namespace F
open PySem L2 PySem.Spec PyProof.Rows
theorem Cal.alias{P:Program}{w:World}{K:zFr}{mg:zMg}{base:Heap}{k:Nat}{x y:Str}{g:G}(c:Cal P w K mg base k x g)(h:mg y=mg x):Cal P w K mg base k y g:=by obtain⟨f,fd,ps,ds,dvs,dds,gg,FF,hm,r⟩:=c.ex;exact⟨f,fd,ps,ds,dvs,dds,gg,FF,h.trans hm,r⟩
theorem has_alias{K:zFr}{h:Heap}{mg:zMg}(KX:K.In h)(G:h.Ns mainGlobals mg){x y:Str}{C:Addr}(a:PySem.W.nsIn K mainGlobals y=some (some (.ref C)))(b:PySem.W.nsIn K mainGlobals x=some (some (.ref C))):mg y=mg x:=(z3y KX G a).trans (z3y KX G b).symm
end F
namespace F
open PySem L2 PySem.Spec PyProof.Rows PySem.W PySem.Calls
theorem ztc:typeLookup (.type "list_reverseiterator") "__len__"=pure none:=by rw[typeLookup_type,builtinLookup_eq_fast];kernel_rfl
theorem zo9:typeLookup (.type "list_reverseiterator") "__length_hint__"=pure (some (.builtin "list_reverseiterator.__length_hint__")):=by rw[typeLookup_type,builtinLookup_eq_fast];kernel_rfl
theorem ztb:isSubtype (.type "list_reverseiterator") (.type "list_reverseiterator")=pure true:=by rw[isSubtype_type];kernel_rfl
section
variable {prog:Program}{w:World}{A:Around}{s:Shared}{it l:Addr}{items:Array Value}
def zn1(items:Array Value):Nat->Value->Prop:=fun i v=>items[items.size-1-i]? = some v
theorem zoi{E:zVP}{Q:Bool->Shared->Prop}{i:Int}(hit:s.heap.IsRevIter it l i)(h:Q false s):wpAny (model prog w) A (Builtin.List.listLengthHint (.ref it)) Q E s:=by unfold Builtin.List.listLengthHint;refine z12 (wpAny_specialOf hit.typeIs ztc ?_);refine z12 (wpAny_specialOf (name:=Str.ofString "__length_hint__") hit.typeIs zo9 ?_);refine z12 (wpAny_isInstance hit.typeIs ztb ?_);exact z2a h
variable {R:Result->Shared->Prop}
theorem zjy(hh:A.handled=none)(hne:l≠it)(hl:s.heap.IsList l items)(hit:s.heap.IsRevIter it l ((items.size:Int)-1))(hn:items.size<=sizeLine){S:Addr}{c₀:Nat}
   (hS:s.heap.get? S=some { cls:=.type "list",data:=.seq #[] c₀ }) (h1:S≠it) (h2:S≠l)
   (hR:∀s' acc' c',Moved [S,it] (fun a b=>b=a) s s'->s'.heap.get? S=some { cls:=.type "list",data:=.seq acc' c' }->ItemsOf (zn1 items) acc' items.size->R (.ok (.ret .none)) s') :
   wpAny (model prog w) A.in1 (Builtin.List.listExtendWith (.ref S) (.ref it) .none) (fun fin s'=>match fin with
     | .done f=>R (.ok f) s'
     | .again c'=>c'.quiet=true/\codeAny (model prog w) A c' R s') (fun e s'=>R (.error e) s') s:=by
 have W:=(Walks.listRev (prog:=prog) (w:=w) (A:=A.in1) hh it l hne items).toS;have st0:(0:Nat)<=items.size/\s.heap.IsRevIter it l ((items.size:Int)-1-((0:Nat):Int))/\s.heap.IsList l items:=⟨z2x _,by simpa using hit,hl⟩
 have nf:S∉[it,l]:=by simp[h1,h2]
 have ns:Builtin.List.listSameRef (.ref S) (.ref it)=false:=by unfold Builtin.List.listSameRef;simpa using h1
 unfold Builtin.List.listExtendWith;refine z12 (wpAny_typeOf hit.typeIs ?_);rw[ns,z2w (by decide)];refine z12 (W.self 0 _ _ _ st0 (z12 (wpAny_holding (zoi hit ?_))));rw[z2w (by decide +kernel)];refine z2a ⟨plainId_quiet F.plain_extend_loop _,?_⟩;exact codeAny_extend_loopS W hn S nf .none items.size 0 s #[] c₀ (Nat.sub_zero _) (z2x _) st0 hS (ItemsOf.nil _) fun s' acc' c' m hs ha=>hR s' acc' c' m hs ha
theorem zoh(hh:A.handled=none)(hne:l≠it)(hl:s.heap.IsList l items)(hit:s.heap.IsRevIter it l ((items.size:Int)-1))(hn:items.size<=sizeLine){S:Addr}
   (hS:s.heap.get? S=some { cls:=.type "list",data:=.seq #[] }) (h1:S≠it) (h2:S≠l)
   (hR:∀s' acc' c',Moved [S,it] (fun a b=>b=a) s s'->s'.heap.get? S=some { cls:=.type "list",data:=.seq acc' c' }->ItemsOf (zn1 items) acc' items.size->R (.ok (.ret .none)) s') :
   wpAny (model prog w) A.in1 (Builtin.«list.__init__» ⟨[.ref S,.ref it],[]⟩) (fun fin s'=>match fin with
     | .done f=>R (.ok f) s'
     | .again c'=>c'.quiet=true/\codeAny (model prog w) A c' R s') (fun e s'=>R (.error e) s') s:=by
 show wpAny _ A.in1 (Builtin.List.listItems (.ref S) >>= fun old=>Builtin.List.listUpdate (.ref S) (fun _=>#[]) >>= fun _=>letGo old.toList.reverse >>= fun _=>Builtin.List.listExtendWith (.ref S) (.ref it) .none) _ _ s;unfold Builtin.List.listItems;refine z12 (z12 (wpAny_seqItems hS rfl (z2a ?_)));unfold Builtin.List.listUpdate;refine z12 (wpAny_updateSeq hS rfl (z12 (wpAny_letGo ?_)));have hS2:=z27 (Obj.mapSeq (fun _=>(#[]:Array Value))) hS rfl;have keep:∀b o,b≠S->s.heap.get? b=some o->(s.heap.update S (Obj.mapSeq (fun _=>(#[]:Array Value)))).get? b=some o:=fun b o hb e=>(z2m _ _ (z26 hb)).trans e;refine zjy hh hne (hl.at fun o e=>keep l o (z26 h2) e) (hit.at fun o e=>keep it o (z26 h1) e) hn hS2 h1 h2 fun s' acc' c' m hs ha=>hR s' acc' c' ?_ hs ha;exact Moved.trans (fun _ _ _ p q=>q.trans p) ((Moved.refl (wr:=[S,it]) (G:=fun a b=>b=a) (s:=s) fun _=>rfl).then_heap (z16 _) fun b o hb e=>keep b o (fun z=>hb (by simp[z])) e) m
theorem zft{E:zVP}{Q:zVP}(hh:A.handled=none)(hne:l≠it)(hl:s.heap.IsList l items)(hit:s.heap.IsRevIter it l ((items.size:Int)-1))(hn:items.size<=sizeLine)
   (hQ:∀s' acc' c',Moved [s.heap.objs.size,it] (fun a b=>b=a) { s with heap:=s.heap.push { cls:=.type "list",data:=.seq #[] } } s'->s'.heap.get? s.heap.objs.size=some { cls:=.type "list",data:=.seq acc' c' }->ItemsOf (zn1 items) acc' items.size->Q (.ref s.heap.objs.size) s') :
   wpAny (model prog w) A (call (.type "list") [.ref it]) Q E s:=by
 obtain⟨o1,e1,_⟩:=id hl;obtain⟨o2,e2,_⟩:=id hit;refine callType_codes (Q₁:=fun obj s₁=>obj=.ref s.heap.objs.size/\s₁={ s with heap:=s.heap.push { cls:=.type "list",data:=.seq #[] } }) F.called_list (F.typeCall_list_1 _) F.entry_list_init (code_list_new _ ⟨rfl,rfl⟩) fun obj s₁ h₁=>?_;obtain⟨rfl,rfl⟩:=h₁;have hS:(s.heap.push { cls:=.type "list",data:=.seq #[] }).get? s.heap.objs.size=some { cls:=.type "list",data:=.seq #[] }:=z2q _ rfl;refine⟨⟨_,hS,rfl⟩,F.args_list_init_2 _ _,zoh (A:=A.in1) hh hne (hl.at fun o e=>z14 _ e) (hit.at fun o e=>z14 _ e) hn hS ?_ ?_ fun s' acc' c' m hs ha=>⟨rfl,hQ s' acc' c' m hs ha⟩⟩
 · exact fun z=>z3n _ (z▸z2c e2)
 · exact fun z=>z3n _ (z▸z2c e1)
end
section
variable {X:Cx}{e:Expr}{te:TE}{f:E}{p p2 pos pos2:Pos}
theorem zf4:bootBuiltins "reversed"=some (.type "reversed"):=by with_unfolding_all rfl
theorem zln{its:List Value}{acc:Array Value}(h:ItemsOf (zn1 its.toArray) acc its.toArray.size):acc=its.reverse.toArray:=by
 apply Array.toList_inj.mp;obtain⟨h1,h2⟩:=h;rw[z17]at h1;have l1:acc.toList.length=its.length:=by rw[Array.length_toList];exact h1
 apply List.ext_getElem
 · rw[l1,z3m]
 · intro j q1 q2;have q3:j<its.length:=by rw[<-l1];exact q1
   have e1:acc[j]? = some acc.toList[j]:=by rw[<-Array.getElem?_toList];exact z19 q1
   have e2:=h2 j _ e1;unfold zn1 at e2;rw[z17,<-Array.getElem?_toList,z19 (by show its.length-1-j<its.length;omega)]at e2;have e3:=z2n e2;rw[<-e3,List.getElem_reverse]
def z1b(K:zFr)(te:TE):TE:=fun σ H Q=>te σ H fun x H1=>∃a xs,x=.ref a/\SqL K H1 a xs/\∀l,H1 l=none->Q (.ref l) (upd H1 l (.lst xs.reverse))
theorem zj3(he:PE X e te)(hc:X.calm=true)(hm:X.mg "list"=none)(hm2:X.mg "reversed"=none)(hg:Gl X "list")(hg2:Gl X "reversed")
   (h1:starEach [.Call (.Name "reversed" p2) [e] [] pos2] X.env=(false,eval (.Call (.Name "reversed" p2) [e] [] pos2) X.env)::starEach [] X.env) (h2:starEach [e] X.env=(false,eval e X.env)::starEach [] X.env) :
   PE X (.Call (.Name "list" p) [.Call (.Name "reversed" p2) [e] [] pos2] [] pos) (z1b X.K te):=by
 intro pins s σ H Q I h;refine z3h (zen I hg hm zhb ?_ (by decide) (by decide));refine z3v ?_ h1 rfl;rw[h1];show wpAny _ _ (spliced ((false,eval (.Call (.Name "reversed" p2) [e] [] pos2) X.env)::[])) _ _ s;refine PySem.Calls.spliced_cons ?_;refine z3h (zen I hg2 hm2 zf4 ?_ (by decide) (by decide));have h':=zl0 he zqj h2 pos2 pins s σ H (fun vs H1=>match vs with
   | [x]=>∃a xs,x=.ref a/\SqL X.K H1 a xs/\∀l,H1 l=none->Q (.ref l) (upd H1 l (.lst xs.reverse))
   |_=>False) I h
 refine z3v (thn h' fun us s1 ⟨vs,H1,I1,r1,q1⟩=>?_) h2 rfl
 match vs,r1,q1 with
 | [x],r1,q1=>
   obtain⟨a,xs,rfl,hq,q⟩:=q1;obtain⟨u,rfl,ru⟩:=r1.one;cases ru;obtain⟨its,rv,pl,hz⟩:=I1.list hq;have hlen:=rv.length;have hl:s1.heap.IsList a its.toArray:=pl.isList;obtain⟨oa,ea,_⟩:=id hl;refine call_reversed_list hl ?_;refine PySem.Calls.spliced_nil ?_;have hne:a≠s1.heap.objs.size:=fun z=>z3n _ (z▸z2c ea);refine zft (items:=its.toArray) (I.ok.hd hc) hne (hl.at fun o e=>z14 _ e) ⟨_,z2q _ rfl,rfl,rfl⟩ (by rw[z17];omega) fun s' acc' c' m hs ha=>?_;have es:=zln ha;subst es;obtain⟨h',g',d',t',o'⟩:=s';have e1:=m.gens;have e2:=m.drawn;have e3:=m.os;dsimp only at e1 e2 e3 hs;subst e1 e2 e3;have sz:(s1.heap.push (revObj a ((its.toArray.size:Int)-1))).objs.size=s1.heap.objs.size+1:=z5i ..;have kp:∀b o,s1.heap.get? b=some o->h'.get? b=some o:=fun b o e=>by have lt:=z2c e;refine m.heap b o ?_ (z14 _ (z14 _ e));simp only[sz,z2l,List.not_mem_nil,or_false,not_or];exact⟨z2f (Nat.lt_succ_of_lt lt),z2f lt⟩
   rw[sz]at hs;refine⟨.ref (s1.heap.objs.size+1),_,I1.laid (t':=t') (h':=h') kp (z4f _) (show ObjOk X.prog X.w _ h' _ (.lst xs.reverse) from⟨by rw[z3m];exact hz,its.reverse,c',rv.reverse,hs⟩),?_,q _ (I1.hok.fresh (z4f _))⟩;show Value.ref _=Value.ref _;rw[sz]
def zb2(f:E):E:=fun ev S=>(f ev S).bind fun p=>match p.1 with
 | .lst ds=>some (.lst ds.reverse,p.2)
 |_=>none
theorem zkf(hm:X.mg "list"=none)(hm2:X.mg "reversed"=none)(he:FE X e f)(hc:X.calm=true:=by rfl)(hg:Gl X "list":=by rfl)(hg2:Gl X "reversed":=by rfl)
   (h1:starEach [.Call (.Name "reversed" p2) [e] [] pos2] X.env=(false,eval (.Call (.Name "reversed" p2) [e] [] pos2) X.env)::starEach [] X.env:=by exact zx rfl) (h2:starEach [e] X.env=(false,eval e X.env)::starEach [] X.env:=by exact zx rfl) :
   FE X (.Call (.Name "list" p) [.Call (.Name "reversed" p2) [e] [] pos2] [] pos) (zb2 f) :=
 jo (zj3 he hc hm hm2 hg hg2 h1 h2) fun σ H Q h=>by
   obtain⟨ρ,ev,S,d,S',hE,hS,hf,k⟩:=h;obtain⟨⟨x,S1⟩,q1,hf⟩:=zy hf;cases x with
   | lst ds=>
     cases hf;refine⟨ρ,ev,S,_,S1,hE,hS,q1,fun v ρ1 H1 E1 hS1 r1=>?_⟩;obtain⟨b,us,rfl,t,r⟩:=r1.refL;exact⟨b,us,rfl,t.sq,fun l hl=>k _ ρ1 _ (E1.trans (x9 hS1 _ hl)) (hS1.new _ hl) (Rep.lst (s:=hS1) hl r.reverse)⟩
   |_=>cases hf
end
structure OwnIs (K:zFr) (C:Addr):Prop where
 hg:plainGet K C "__class__"=true
 hd:hasDictIn K C=true
 ha:findIn K (.ref C) "__class__"=some (some (.builtin "object.__class__"))
 hn:specialIn K (.builtin "object.__class__") "__get__"=some (some (.builtin "getset_descriptor.__get__"))
 ht:takesIn K (.builtin "object.__class__")=some true
 hm:mroIn K C (.type "object")=some true
def IsOwn(K:zFr)(mg:zMg)(c d:Str)(b:Bool):Prop:=∃C D,mg c=some (.ref C)/\mg d=some (.ref D)/\OwnIs K C/\kitOne K (.ref C) (.ref D)=some b
def zww(c d:Str)(b:Bool)(S:Sto):List D->Option D
 | [.obj i,.fn y]=>(match S[i]? with
   |some (.ins c' _)=>if c'=c/\y=d then some (.bl b)else none
   |_=>none)
 |_=>none
section
variable {X:Cx}{K:Frag}{mg:zMg}{e:Expr}{es:List Expr}{g:As}{p pos:Pos}{c d:Str}{b:Bool}
def z0v(K:zFr):List V->Hp->VK->Prop:=fun xs H Q=>∃a C dx fs D b,xs=[.ref a,.ref D]/\H a=some (.ins C dx fs)/\OwnIs K C/\kitOne K (.ref C) (.ref D)=some b/\Q (.bl b) H
theorem zpx:CallR X (.builtin "isinstance") (z0v X.K):=by
 intro pins s σ H xs us Q I r h;obtain⟨a,C,dx,fs,D,b,rfl,ha,ho,hk,q⟩:=h;obtain⟨u1,u2,rfl,r1,r2⟩:∃u1 u2,us=[u1,u2]/\RelV (.ref a) u1/\RelV (.ref D) u2:=by
   cases r with
   | cons p q=>
     cases q with
     |cons p' q'=>cases q';exact⟨_,_,rfl,p,p'⟩
 cases(show u1=Value.ref a from r1);cases(show u2=Value.ref D from r2);obtain⟨mA,O,_⟩:=zdk I.hok ha;obtain⟨od,oi,_⟩:=O.look;exact kia_one (kitx_own ho.hg ho.hd ho.ha ho.hn ho.ht ho.hm) I.kIn oi hk (fun z=>nomatch z) fun tk=>⟨.bl _,H,I.tok tk,rfl,q⟩
theorem zr2(h:IsOwn K mg c d b):zn0 K mg (z0v K) (zww c d b):=by
 intro ρ H S xs ds dd Q hS r e k;unfold zww at e;split at e
 · split at e
   · rename_i c' fs hi;split at e
     · rename_i hc;cases e;obtain⟨rfl,rfl⟩:=hc;obtain⟨C,D,m1,m2,ho,hk⟩:=h;obtain⟨v,w,rfl,r1,r2⟩:=two r;unfold Rep at r1 r2;obtain⟨a,rfl,ha⟩:=r1;obtain⟨A,rfl,hA⟩:=r2;obtain⟨C',dx,vs,m3,hH,_⟩:=hS.ob _ _ a hi ha;rw[m1]at m3;cases m3;rw[m2]at hA;cases hA;exact⟨a,C,dx,vs,D,b,rfl,hH,ho,hk,k _ H (Ext.refl _ _) hS rfl⟩
     · cases e
   · cases e
 · cases e
theorem zxc(h:IsOwn X.K X.mg c d b)(hm:X.mg "isinstance"=none)(ha:FA X (e::es) g)(hg:Gl X "isinstance":=by rfl)(he:starEach (e::es) X.env=(false,eval e X.env)::starEach es X.env:=by exact zx rfl)(hpl:(backTo pos (starEach es X.env)).any (·.1)=false:=by exact qt rfl) :
   FE X (.Call (.Name "isinstance" p) (e::es) [] pos) (eA (zww c d b) g) :=
 zdt zpx (zr2 h) hm (by with_unfolding_all rfl) ha hg (by decide) (by decide) he hpl
variable {h:Heap}
theorem has_own(KX:K.In h)(G:h.Ns mainGlobals mg){c d:Str}{C D:Addr}{b:Bool}(a:nsIn K mainGlobals c=some (some (.ref C)))(a':nsIn K mainGlobals d=some (some (.ref D)))(h1:plainGet K C "__class__"=true)(h2:hasDictIn K C=true)
   (h3:findIn K (.ref C) "__class__"=some (some (.builtin "object.__class__"))) (h4:specialIn K (.builtin "object.__class__") "__get__"=some (some (.builtin "getset_descriptor.__get__"))) (h5:takesIn K (.builtin "object.__class__")=some true) (h6:mroIn K C (.type "object")=some true)
   (q:kitOne K (.ref C) (.ref D)=some b):IsOwn K mg c d b:=⟨C,D,mg_of KX G a,mg_of KX G a',⟨h1,h2,h3,h4,h5,h6⟩,q⟩
end
section
variable {X:Cx}{o:Expr}{f:E}{pos apos:Pos}{k:Nat}{c m:Str}{g:GR}
theorem zcv(mt:RMth X.prog X.w X.K X.mg X.base k c m g)(hr:Room k X.A)(ho:FE X o f){pl:Sem Bool}
   (ht:eval (.Call (.Attribute o m apos) [] [] pos) X.env=(do
     let ov <-eval o X.env
     standAt apos.atName
     let(f,first) <-holding [ov] (getMethod ov m pl)
     callWith pos f first (backTo pos (starEach [] X.env)) (backToKw pos (keywordEach [] X.env))):=by rfl) :
   RE X (.Call (.Attribute o m apos) [] [] pos) (zc8 c m g f aN):=by
 obtain⟨C,fa,fd,ps,ds,dvs,dds,gg,F,hm,hc,hme,hb,hd,hdd,hgg⟩:=mt.ex;intro pins s σ H E Q hx I t;obtain⟨ρ,ev,S,nm,S',hE,hS,hf,CC,hC,kk⟩:=t;obtain⟨⟨y,S1⟩,q1,hf1⟩:=zy hf;obtain⟨⟨i,fs⟩,q2,hf2⟩:=zy hf1;dsimp only at hf2 q2;split at hf2
 · rename_i hl;obtain⟨rfl,hi⟩:=y6 q2;have h0:=ho pins s σ H (fun x H1=>∃b dx fs,x=.ref b/\H1 b=some (.ins C dx fs)/\fs.lookup m=none/\spR X.K X.mg gg ([x]++dvs) H1 (fun _ _=>False) E) I ⟨ρ,ev,S,_,S1,hE,hS,q1,fun v ρ1 H1 E1 hS1 r1=>by
     obtain⟨b,C',dx,vs,rfl,hb1,hm',hb2,hb3⟩:=zbd hS1 hi r1;have ec:C'=C:=by rw[hm]at hm';cases hm';rfl
     subst ec;exact⟨b,dx,vs,rfl,hb2,kx hb3.1 hl,ρ1,[.obj i]++dds,S1,nm,S',(RepL.cons r1 RepL.nil).append (hdd ρ1 H1),hS1,hgg [.obj i] S1 _ hf2,CC,hC,fun e ρ' H' E' hS'=>kk e ρ' H' (E1.trans E') hS'⟩⟩
   refine z3x (pl:=pl) (thn h0 fun u s1 ⟨x,H1,I1,rx,b,dx,fs,ex,ea,l,q⟩=>?_) ht;subst ex;cases(show u=Value.ref b from rx);refine yq I1 ea hc hme l ?_;refine z46 (first:=[.ref b]) I1.kIn hme.kp ?_;refine thn (zy0 (us:=[.ref b]) (vs:=[.ref b]) F hr hb hd I1 (fun e s' hc=>hx.pass I1 hc) (.cons rfl .nil) q) fun v s1 q=>?_;obtain⟨_,_,_,_,q⟩:=q;exact q.elim
 · cases hf2
end
end F
namespace F
open PySem L2 PySem.Spec PyProof.Rows
def zi1(c m:Str)(f:E)(r:R):R:=fun ev S=>(f ev S).bind fun p=>(ki c p.2 p.1).bind fun q=>if q.2.lookup m=none then r ev p.2 else none
section
variable {X:Cx}{k:Nat}{x c m n:Str}{g:G}{e o:Expr}{es:List Expr}{a:As}{f:E}{r:R}{p pos apos:Pos}
theorem zok(mt:Mth X.prog X.w X.K X.mg X.base k c m g)(ho:FE X o f)(hre:RE X e r){pl:Sem Bool}
   (hst:starEach (e::es) X.env=(false,eval e X.env)::starEach es X.env:=by exact zx rfl) (hpl:(backTo pos (starEach es X.env)).any (·.1)=false:=by exact qt rfl)
   (ht:eval (.Call (.Attribute o m apos) (e::es) [] pos) X.env=(do
     let ov <-eval o X.env
     standAt apos.atName
     let(f,first) <-holding [ov] (getMethod ov m pl)
     callWith pos f first (backTo pos (starEach (e::es) X.env)) (backToKw pos (keywordEach [] X.env))):=by rfl) :
   RE X (.Call (.Attribute o m apos) (e::es) [] pos) (zi1 c m f r):=by
 obtain⟨C,fa,fd,ps,ds,dvs,dds,gg,F,hm,hc,hme,hb,hd,hdd,hgg⟩:=mt.ex;intro pins s σ H E Q hx I t;obtain⟨ρ,ev,S,nm,S',hE,hS,hf,CC,hC,kk⟩:=t;obtain⟨⟨y,S1⟩,q1,hf1⟩:=zy hf;obtain⟨⟨i,fs⟩,q2,hf2⟩:=zy hf1;dsimp only at hf2 q2;split at hf2
 · rename_i hl;obtain⟨rfl,hi⟩:=y6 q2;have h0:=ho pins s σ H (fun x H1=>∃b dx fs,x=.ref b/\H1 b=some (.ins C dx fs)/\fs.lookup m=none/\tR X.K X.mg r σ H1 E) I ⟨ρ,ev,S,_,S1,hE,hS,q1,fun v ρ1 H1 E1 hS1 r1=>by
     obtain⟨b,C',dx,vs,rfl,hb1,hm',hb2,hb3⟩:=zbd hS1 hi r1;have ec:C'=C:=by rw[hm]at hm';cases hm';rfl
     subst ec;exact⟨b,dx,vs,rfl,hb2,kx hb3.1 hl,ρ1,ev,S1,nm,S',hE.mono E1,hS1,hf2,CC,hC,fun e ρ' H' E' hS'=>kk e ρ' H' (E1.trans E') hS'⟩⟩
   refine z3x (pl:=pl) (thn h0 fun u s1 ⟨x,H1,I1,rx,b,dx,fs,ex,ea,l,q⟩=>?_) ht;subst ex;cases(show u=Value.ref b from rx);refine yq I1 ea hc hme l ?_;refine z3q (first:=[.ref b]) (h₀:=X.base) I.ok.mod.kin hme.kp ?_ hst hpl;rw[hst];show wpAny _ _ (spliced ((false,eval e X.env)::backTo pos (starEach es X.env))) _ _ s1;exact z4n (hre pins s1 σ H1 E _ hx I1 q)
 · cases hf2
end
section
variable {P:Program}{w:World}{K:zFr}{mg:zMg}{base:Heap}{k:Nat}{x y c qual:Str}{N ps:List Str}{st:Stmt}{r:R}{g:GR}
theorem RCal.alias(h0:RCal P w K mg base k x g)(h:mg y=mg x):RCal P w K mg base k y g:=by obtain⟨f,fd,ps,ds,dvs,dds,gg,FF,hm,r⟩:=h0.ex;exact⟨f,fd,ps,ds,dvs,dds,gg,FF,h.trans hm,r⟩
end
end F
namespace F
open PySem L2 PySem.Spec PySem.Calls PyProof.Rows PySem.W
open Builtin Builtin.ObjectAttr
def zb0(C:Addr)(dx:Option Addr)(t:Addr):Obj:={ cls:=.ref C,dict:=dx,data:=.fields #[.ref t,.none,.none,.none,.bool false,.none] }
def ExN(e C:Addr)(h:Heap):Prop:=∃t,h.get? e=some (zb0 C none t)
def ExD(e C dx:Addr)(h:Heap):Prop:=∃t,h.get? e=some (zb0 C (some dx) t)
def zx2(K:zFr)(C fI:Addr):Prop :=
 ∃(N:Addr) (nm q:Str) (bs bm:List Value) (hdct:Bool) (sn:List Str) (sub:List Value) (ab:Bool) (col:Option Bool) (dd:Option Addr) (k0 k1 k2 k3 k5:Option Value) (mN:zMg),
   bm.contains (.type "BaseException")=true/\mN "__init__"=some (.ref fI) /\
   ∀h:Heap,K.In h->h.get? C=some (excClassObj nm q C N bs bm hdct sn sub ab col dd k0 k1 k2 k3 k5 "ValueError.__new__")/\h.Ns N mN/\OwnTail h zch bm
section
variable {prog:Program}{w:World}{A:Around}{E:zVP}{h:Heap}{g:Array GenState}{d:Drawn}{t:Nat}{os:OsState}
variable {nm q:Str}{C N:Addr}{bs bm:List Value}{hdct:Bool}{sn:List Str}{sub:List Value}{ab:Bool}{col:Option Bool}{dd:Option Addr}{k0 k1 k2 k3 k5:Option Value}
theorem zhn{mN:zMg}{rest:List Value}{fI:Addr}{oI:Obj}{Q:Fin->Shared->Prop}(ow:OwnTail h zch bm)
   (eC:h.get? C=some (excClassObj nm q C N bs bm hdct sn sub ab col dd k0 k1 k2 k3 k5 "ValueError.__new__")) (eN:h.Ns N mN) (ei:mN "__init__"=some (.ref fI))
   (ef:h.get? fI=some oI) (cf:oI.cls=.type "function")
   (hq:∀h' e,Heap.MadeExcOf h h' e (.ref C) rest->wpAny (model prog w) A (call (.ref fI) (.ref e::rest)) (fun r s'=>r=.none/\Q (.done (.ret (.ref e))) s') E ⟨h',g,d,t,os⟩) (lr:rest.length<=sizeLine) :
   wpAny (model prog w) A (Builtin.«type.__call__» ⟨.ref C::rest,[]⟩) Q E ⟨h,g,d,t,os⟩:=by
 have FB:=z4a
 repeat (first | with_reducible refine wpAny_loadPart_at eC ?_ | with_reducible refine wpAny_madeBy_exc eC ?_ | wp_step)
 refine codeAny_call_builtin_code (z5f _ FB.quiet) (wpAny_check_new_subT FB ow eC (codeAny_exc_new_subT FB ow eC ?_ lr));show wpAny _ _ _ _ _ _;have k1:∀b o,h.get? b=some o->((h.push { cls:=.type "tuple",data:=.seq rest.toArray }).push { cls:=.ref C,data:=.fields #[.ref h.objs.size,.none,.none,.none,.bool false,.none] }).get? b=some o :=
   fun b o e=>z14 _ (z14 _ e)
 have eC1:=k1 _ _ eC;have ef1:=k1 _ _ ef;have eN1:((h.push { cls:=.type "tuple",data:=.seq rest.toArray }).push { cls:=.ref C,data:=.fields #[.ref h.objs.size,.none,.none,.none,.bool false,.none] }).Ns N mN:=eN.keeps k1;have gx:((h.push { cls:=.type "tuple",data:=.seq rest.toArray }).push { cls:=.ref C,data:=.fields #[.ref h.objs.size,.none,.none,.none,.bool false,.none] }).get? (h.objs.size+1)=some { cls:=.ref C,data:=.fields #[.ref h.objs.size,.none,.none,.none,.bool false,.none] }:=by heap_get
 have cC:(Value.ref C::bm).contains (.ref C)=true:=by simp
 have ow1:=ow.keeps k1;unfold isInstance
 repeat (first | with_reducible refine wpAny_loadPart_at gx ?_ | (with_reducible refine wpAny_isSubtype_exc eC1 ?_;rw[cC]) | wp_step)
 show wpAny _ _ (typeLookup (.ref C) _) _ _ _;refine wpAny_typeLookup_tail eC1 eN1 ow1 FB.mroIs FB.init.lookup ?_;rw[ei];refine wpAny_holding (z12 ?_);unfold bindSpecial;refine z12 (wpAny_typeOf (T:="function") ⟨_,ef1,cf⟩ ?_);rw[z2v (by decide)];have mk:Heap.MadeExcOf h ((h.push { cls:=.type "tuple",data:=.seq rest.toArray }).push { cls:=.ref C,data:=.fields #[.ref h.objs.size,.none,.none,.none,.bool false,.none] }) (h.objs.size+1) (.ref C) rest :=
   ⟨k1,z3j (z4f _),h.objs.size,gx,z3j (z16 _),z14 _ (Heap.get?_push_at rfl rfl)⟩
 refine z2a (z12 (thn (hq _ _ mk) fun r s' hr=>?_));obtain⟨rfl,hQ⟩:=hr
 wp_walk
 exact hQ
theorem zxq{mN:zMg}{rest:List Value}{fI:Addr}{oI:Obj}{Q:zVP}(ow:OwnTail h zch bm)
   (eC:h.get? C=some (excClassObj nm q C N bs bm hdct sn sub ab col dd k0 k1 k2 k3 k5 "ValueError.__new__")) (eN:h.Ns N mN) (ei:mN "__init__"=some (.ref fI))
   (ef:h.get? fI=some oI) (cf:oI.cls=.type "function")
   (hq:∀h' e,Heap.MadeExcOf h h' e (.ref C) rest->wpAny (model prog w) (A.under (.builtin "type.__call__" ⟨.ref C::rest,[]⟩)) (call (.ref fI) (.ref e::rest)) (fun r s'=>r=.none/\Q (.ref e) s') E ⟨h',g,d,t,os⟩) (lr:rest.length<=sizeLine) :
   wpAny (model prog w) A (call (.ref C) rest) Q E ⟨h,g,d,t,os⟩:=by
 have z1:=tc_lookup;have z2:=tc_bind (.ref C);have ty:(⟨h,g,d,t,os⟩:Shared).TypeIs (.ref C) "type":=⟨_,eC,rfl⟩
 refine z4i (codeAny_of_tree ?_);show wpAny _ _ (callAny (.ref C) _) _ _ _
 repeat (any_goals (first | assumption | with_reducible refine wpAny_loadPart_at eC ?_ | wp_step))
 refine⟨rfl,codeAny_call_builtin_at (z5f _ (by decide +kernel)) entry_typeCall (wpAny_check_type_call_sub eC (zhn ow eC eN ei ef cf (fun h' e hm=>?_) lr))⟩;exact hq h' e hm
theorem zsi{M:Model}{env:Env}{s:Shared}{x:Sem Value}{Q:Flow->Shared->Prop}{newId:String}(bx:bm.contains (.type "BaseException")=true)(nh:A.handled=none)
   (hq:wpAny M A x (fun v s1=>∃e t dx,v=.ref e/\s1.heap.get? C=some (excClassObj nm q C N bs bm hdct sn sub ab col dd k0 k1 k2 k3 k5 newId)/\s1.heap.get? e=some (zb0 C dx t)/\E (.ref e) s1) E s) :
   wpAny M A (raiseStmt env (some x) none) Q E s:=by
 have cB:(Value.ref C::bm).contains (.type "BaseException")=true:=by rw[List.contains_cons,bx,Bool.or_true]
 unfold raiseStmt;refine z12 (thn hq fun v s1 z=>?_);obtain⟨e,t,dx,rfl,eC,ee,hE⟩:=z;obtain⟨hp,g,d,tk,os⟩:=s1;unfold zb0 at ee
 repeat (first | with_reducible refine wpAny_loadPart_at ee ?_ | with_reducible refine wpAny_loadPart_at eC ?_ | (with_reducible refine wpAny_isSubtype_exc eC ?_;rw[cB]) | wp_step)
 exact wpAny_raiseNew_none nh hE
end
section
variable {prog:Program}{w:World}{A:Around}{E:zVP}{h:Heap}{g:Array GenState}{d:Drawn}{t:Nat}{os:OsState}
variable {nm q:Str}{C N e t0:Addr}{bs bm:List Value}{hdct:Bool}{sn:List Str}{sub:List Value}{ab:Bool}{col:Option Bool}{dd:Option Addr}{k0 k1 k2 k3 k5:Option Value}
theorem zwx{u:Value}{Q:zVP}(ow:OwnTail h zch bm)(eC:h.get? C=some (excClassObj nm q C N bs bm hdct sn sub ab col dd k0 k1 k2 k3 k5 "ValueError.__new__"))
   (ee:h.get? e=some (zb0 C none t0)) (hq:∀h' t',h'.get? e=some (zb0 C none t')->(∀b o,b≠e->h.get? b=some o->h'.get? b=some o)->Q .none ⟨h',g,d,t,os⟩) :
   wpAny (model prog w) A (call (.builtin "ValueError.__init__") [.ref e,u]) Q E ⟨h,g,d,t,os⟩:=by
 have FB:=z4a;unfold zb0 at ee;refine z4i (z31 FB.init.plain FB.initEntry (wpAny_check_init_subT FB ow eC ee rfl ?_))
 wp_walk
 refine hq _ h.objs.size ?_ fun b o nb eb=>?_
 · rw[z27 _ (z14 _ ee) rfl];rfl
 · rw[z2m _ _ (z26 nb)];exact z14 _ eb
end
section
variable {prog:Program}{w:World}{A:Around}{E:zVP}{s:Shared}{K:zFr}{x C t0:Addr}{name:Str}{v:Value}
structure XSet (K:zFr) (C:Addr) (name:Str):Prop where
 sa:findIn K (.ref C) "__setattr__"=some (some (.builtin "object.__setattr__"))
 na:findIn K (.ref C) name=some none
 hd:hasDictIn K C=true
 mr:∃cd bm,clsIn K C=some cd/\cd.mro=bm++zch/\∀y∈bm,∃c,y=.ref c
theorem zc6(self:Value)(what:Str)(l:List Value):∀(bm:List Value),(∀y∈bm,∃c,y=Value.ref c)->refuseLoop self what (bm++l)=refuseLoop self what l
 | [],_=>rfl
 | y::bm,hy=>by obtain⟨c,rfl⟩:=hy y (z2z ..);rw[List.cons_append,refuseLoop_ref,zc6 self what l bm fun z hz=>hy z (z2e _ hz)]
theorem zzi{tk:Tok}{R:Result->Shared->Prop}(X:K.In s.heap)(Z:XSet K C name)(ee:s.heap.get? x=some (zb0 C none t0))
   (hq:∀h' tk,h'.get? x=some (zb0 C (some s.heap.objs.size) t0)->h'.Ns1 s.heap.objs.size (fun y=>if y=name then some v else none)->(∀b o,b≠x->s.heap.get? b=some o->h'.get? b=some o)->R (.ok (.ret .none)) { s with heap:=h',toks:=tk }) :
   codeAny (model prog w) A (.call (.builtin "object.__setattr__") ⟨[.ref x,.str name tk,v],[]⟩) R s:=by
 have I:InstAt s.heap x (zb0 C none t0) C none:=⟨ee,rfl,rfl,trivial⟩
 obtain⟨cd,bm,hc,hm,hb⟩:=Z.mr;have SF:=PySem.F.store_object;have hmo:cd.mro.contains (.type "object")=true:=by rw[hm];simp[zch]
 have ne:cd.mro.isEmpty=false:=by rw[hm];cases bm<;>rfl
 have sub:Looks (model prog w) s.heap (isInstance (.ref x) (.type "object")) true:=I.type.andThen (z5m X (by unfold mroIn;rw[hc,Option.bind_some,z2w (by rw[ne];decide),hmo]));refine z31 SF.slot.plain SF.entry (@check_slot (model prog w) _ _ s "object.__setattr__" "object" "__setattr__" (.ref x) [.str name tk,v] [] _ SF.kind SF.split sub (SF.args (.ref x) (.str name tk) v) ?_);have lm:Looks (model prog w) s.heap (mroOf (.ref C)) cd.mro:=(looks_clsIn X hc).andThen .now;rw[osa_eq,refuse_eq];refine z12 (z12 (I.type.here (z12 (lm.here ?_))));rw[hm,zc6 _ _ _ bm hb,show refuseLoop (.ref x) "__setattr__" zch=pure ()from PySem.F.store_ValueError.passes (.ref x)];refine z2a (z12 (I.type.here (z12 ((z4y X Z.na).here (z12 (z2a ?_))))));have hd:cd.hasDict=true:=by obtain⟨cd',a,b⟩:=any_some Z.hd;rw[hc]at a;cases a;exact b
 dsimp only;refine z12 (z2a (z12 (z12 (z4w ee (z12 ((looks_clsIn X hc).here ?_))))));rw[hd];have e1:(s.heap.push { cls:=.type "dict",data:=.dict #[] }).get? x=some (zb0 C none t0):=z14 _ ee;have nx:x≠s.heap.objs.size:=z2f (z2c ee);refine z12 (wpAny_alloc' (z12 (wpAny_update' e1 ?_)));refine z2a ?_;have gd:((s.heap.push { cls:=.type "dict",data:=.dict #[] }).update x fun o=>{ cls:=o.cls,dict:=some s.heap.objs.size,data:=o.data,slots:=o.slots }).get? s.heap.objs.size=some { cls:=.type "dict",data:=.dict #[] } :=
   (Heap.get?_update_ne _ _ _ _ nx.symm).trans (Heap.get?_push_at rfl rfl)
 have nd:((s.heap.push { cls:=.type "dict",data:=.dict #[] }).update x fun o=>{ cls:=o.cls,dict:=some s.heap.objs.size,data:=o.data,slots:=o.slots }).Ns s.heap.objs.size (fun _=>none) :=
   ⟨_,#[],_,gd,rfl,fun e he=>absurd he (by simp),fun _=>rfl⟩
 show wpAny _ _ (storeInDict s.heap.objs.size (.str name _) name v) _ _ _;unfold storeInDict newKeyGuard;refine z12 (z2a (z12 (wpAny_nsSet1 (Heap.Ns1.of_empty nd) fun h' hn' hs=>?_)));obtain⟨oD,esD,epD,hoD,hdD,hcD⟩:=hn'.count (Within.cons name v Within.nil);refine z12 (wpAny_lookBehind hoD (by rw[hdD];exact pastItsLine_dict (z2h hcD (by rw[List.length_cons,List.length_nil,z3a];omega))) ?_)
 wp_walk
 refine hq h' _ ((hs.2 x nx).trans (z27 _ e1 rfl)) hn' fun b o nb eb=>?_;exact(hs.2 b (z2f (z2c eb))).trans ((Heap.get?_update_ne _ _ _ _ nb).trans (z14 _ eb))
theorem zyw{Q:Unit->Shared->Prop}(X:K.In s.heap)(Z:XSet K C name)(ee:s.heap.get? x=some (zb0 C none t0))
   (hq:∀h' tk,h'.get? x=some (zb0 C (some s.heap.objs.size) t0)->h'.Ns1 s.heap.objs.size (fun y=>if y=name then some v else none)->(∀b o,b≠x->s.heap.get? b=some o->h'.get? b=some o)->Q () { s with heap:=h',toks:=tk }) :
   wpAny (model prog w) A (setAttr (.ref x) name v) Q E s :=
 set_plain X (⟨ee,rfl,rfl,trivial⟩:InstAt s.heap x (zb0 C none t0) C none) Z.sa (zzi (s:={ s with toks:=s.toks+1 }) X Z ee fun h' tk a b c=>hq h' tk a b c)
end
section
variable {prog:Program}{w:World}{A:Around}{E:zVP}{s:Shared}{K:zFr}{x D:Addr}{ox:Obj}{od:Option Obj}{name:Str}{v:Value}
theorem ztu{expr:Bool}{Q:zVP}(X:K.In s.heap)(I:InstAt s.heap x ox D od)(Z:ExcIs K D)(hf:findObj K D od name=some (.value v))(hh:handedIn v=true)(h:Q v { s with toks:=s.toks+1 }) :
   wpAny (model prog w) A (getAttr (.ref x) name expr) Q E s:=by
 obtain⟨hh',g,d,t,os⟩:=s;have L0:=I.type (M:=model prog w);have L1:=z4y (M:=model prog w) X Z.ga;have L2:=z4y (M:=model prog w) X Z.gn;have L3:=looks_find (M:=model prog w) X I hf;have oc:OfCls x D hh':=⟨ox,I.at_,I.cls⟩
 have f3:=z3w.ga.bind (.ref x);have hx2:(Value.builtin "BaseException.__getattribute__"==Value.builtin "object.__getattribute__")=false:=(by decide +kernel)
 unfold getAttr getAttrBy;refine z12 (wpAny_mkText (wpAny_holding (z12 (L0.at (z12 (L1.at ?_))))));show wpAny _ _ (if(true&&Value.builtin "BaseException.__getattribute__"==Value.builtin "object.__getattribute__")=true then _ else _) _ _ _;rw[hx2];simp only[z5z,z21,z36];unfold getAttrByItsOwn hookBefore;show wpAny _ _ ((do let before <-typeLookup (.ref D) "__getattr__";_):Sem Value) _ _ _;refine z12 (L2.at ?_);refine z12 (z5n (wpAny_holding ?_));unfold callGetattribute boundAndCalled;rw[show(expr&&onTheHeap (Value.builtin "BaseException.__getattribute__"))=false from z5z _];simp only[z5h,z21,z36,f3,pure_bind];refine z4i (z31 z3w.ga.plain PySem.F.entry_bexc_ga (zgv X oc Z ?_));unfold Builtin.«object.__getattribute__»;refine z12 (z2a (z12 (z2a (z12 (L0.at (z12 (L3.at (z2a ?_))))))));show wpAny _ _ (handedOut v) _ _ _;rw[handedOut_of hh];exact z2a h
end
end F
namespace F
open PySem L2 PySem.Spec PySem.Calls PyProof.Rows PySem.W
def zj0:List D->Option (List PyData)
 | []=>some []
 | .int i::r=>(zj0 r).map (.int i::·)
 | .str x::r=>(zj0 r).map (.str x::·)
 |_=>none
def zbs(txt:Str)(ds:List PyData):Bool:=(PyData.tuple ds).showable&&decide ((Str.empty++txt).length<=sizeLine)&&decide (((Str.empty++txt)++(PyData.tuple ds).shown).length<=sizeLine)
inductive ItsV:List V->List PyData->Prop
 |nil:ItsV [] []
 |int {i vs ds} (t:ItsV vs ds):ItsV (.int i::vs) (.int i::ds)
 |str {x vs ds} (t:ItsV vs ds):ItsV (.str x::vs) (.str x::ds)
theorem zml{K mg ρ H}:∀{ds:List D}{ps:List PyData}{vs:List V},zj0 ds=some ps->RepL K mg ρ H ds vs->ItsV vs ps
 | [],ps,vs,e,r=>by unfold RepL at r;subst r;cases e;exact .nil
 | d::ds,ps,vs,e,r=>by
   unfold RepL at r;obtain⟨v,r',rfl,h1,h2⟩:=r;cases d with
   | int i=>
     obtain⟨l,e1,rfl⟩:=zbf e;rw[show v=.int i from h1];exact .int (zml e1 h2)
   | str x=>
     obtain⟨l,e1,rfl⟩:=zbf e;rw[show v=.str x from h1];exact .str (zml e1 h2)
   |_=>cases e
theorem zoj{h:Heap}{vs:List V}{ps:List PyData}(i:ItsV vs ps):∀{us:List Value},Vals vs us->ReadsAll h us ps []:=by
 induction i with
 |nil=>intro us r;cases r;exact .nil
 | @int i vs ds t ih=>
   intro us r;cases r with
   | cons a b=>
     obtain⟨tk,rfl⟩:=(show ∃t,_=Value.int i t from a)
     exact .cons (as:=[]) (.int i tk) (ih b)
 | @str x vs ds t ih=>
   intro us r;cases r with
   | cons a b=>
     obtain⟨tk,rfl⟩:=(show ∃t,_=Value.str x t from a)
     exact .cons (as:=[]) (.str x tk) (ih b)
theorem zmm{vs:List V}{ps:List PyData}(i:ItsV vs ps):PyData.depthAll ps<=1/\PyData.hasDictAll ps=false:=by
 induction i with
 |nil=>exact⟨by decide,rfl⟩
 |int t ih=>exact⟨by simp only[PyData.depthAll,PyData.depth];have:=ih.1;omega,by simp only[PyData.hasDictAll,PyData.hasDict,ih.2,Bool.or_self]⟩
 |str t ih=>exact⟨by simp only[PyData.depthAll,PyData.depth];have:=ih.1;omega,by simp only[PyData.hasDictAll,PyData.hasDict,ih.2,Bool.or_self]⟩
theorem zmr{P:Program}{w:World}{H:Hp}{h:Heap}{a:Addr}{o:HO}(x:HOk P w H h)(hn:H a=none)(new:ObjOk P w (upd H a o) h a o):HOk P w (upd H a o) h:=fun b u e=>by
 by_cases hb:b=a
 · subst hb;rw[jd]at e;cases e;exact new
 · rw[zw hb]at e;exact(x b u e).stay (fun c v _ q=>q) (fun c q=>by rw[zw (z9 q hn)];exact q) fun c xs q=>by rw[zw (z9 q hn)];exact q
theorem zp6{fs ex:List Addr}{H H1:Hp}{h h1:Heap}{a:Addr}{o:HO}(u:Un fs ex H H1 h h1)(hn:h.get? a=none)(h1n:H1 a=none):Un fs ex H (upd H1 a o) h h1 where
 keep:=u.keep
 slot:=u.slot
 free:=fun b ob q n hx=>by rw[zw (fun z=>by subst z;rw[hn]at q;cases q)];exact u.free b ob q n hx
 there:=u.there
 tups:=fun b xs e=>by rw[zw (z9 (u.tups b xs e) h1n)];exact u.tups b xs e
 frzs:=fun b ob v e=>by rw[zw (z9 (u.frzs b ob v e) h1n)];exact u.frzs b ob v e
 tbls:=fun b ps e=>by obtain⟨m,q⟩:=u.tbls b ps e;exact⟨m,by rw[zw (z9 q h1n)];exact q⟩
structure XBase (K:zFr) (mg:zMg) (b:Str):Prop where
 ex:∃S,mg b=some (.ref S)/\readsIn K S (.type "type")=true/\findCls K (.ref S) (.type "type") "__init__"=some (.val (.builtin "ValueError.__init__"))/\specialIn K (.ref S) "__getattribute__"=some (some (.builtin "type.__getattribute__"))
section
variable {X:Cx}{C fI:Addr}{b txt n:Str}{k:Nat}{p1 p2 p3 p4 p5 p6 p7 p8 p9 q1 q2 q3 q4:Pos}{jj:Nat}
def zrm(K:zFr)(C:Addr)(txt n:Str):TS:=fun D σ H=>∃e p ws ds,σ[0]? = some (some (.ref e))/\σ[1]? = some (some (.ref p))/\H e=some (.ext (ExN e C))/\SqT K H p ws/\ItsV ws ds/\zbs txt ds=true /\
 ∀dx,H dx=none->dx≠e->D.nx σ (upd (upd H e (.ext (ExD e C dx))) dx (.xd [(n,.ref p)]))
theorem zut{pins:zAO}{s:Shared}{σ:L2.St}{H:Hp}{p:Addr}{ws:List V}{ds:List PyData}{x:Str}{Q:zVP}(hr:Room k X.A)(I:Inv X pins σ H s)(h1:σ[1]? = some (some (.ref p)))(hq:SqT X.K H p ws)(hi:ItsV ws ds)(ok:zbs txt ds=true)
   (hN:X.N[1]? = some x) (hv:Vis X.env.scope x) (hd:(x==("__debug__":Str))=false) (hcd:(x==("__classdict__":Str))=false)
   (h:∀y t s',Inv X pins σ H s'->Q (.str y t) s') :
   wpAny (model X.prog X.w) X.A (eval (.JoinedStr [.Constant (.str txt) jj p4,.FormattedValue (.Name x p5) 114 none p6] p7) X.env) Q X.xe s:=by
 unfold zbs at ok;simp only[z2t,z39]at ok;obtain⟨⟨o1,o2⟩,o3⟩:=ok;refine JoinedStr_many (joinParts_cons (Calls.Constant_str ⟨o2,joinParts_consE (joinParts_cons (wpAny_FormattedValue_repr ?_))⟩));refine thn (zgm hN hv hd hcd pins _ σ H (fun v H1=>v=.ref p/\H1=H) (I.tok _) ⟨_,h1,rfl,rfl⟩) fun u s1 ⟨v,H1,I1,r,ev,eH⟩=>?_;subst ev;subst eH;cases(show u=Value.ref p from r);obtain⟨its,rv,⟨o,e1,e2,nn,e3⟩,_⟩:=I1.tuple hq;have rd:Reads s1.heap (.ref p) (.tuple ds) []:=.tuple e1 e2 e3 (by rw[List.toList_toArray];exact zoj hi rv);have dp:=zmm hi;have hu:=hr.un;refine pyReprObj_of_reads rd o1 (PyData.noDict_hsm (by simp only[PyData.hasDict];exact dp.2)) hr.gd (by simp only[PyData.depth];omega) (fun _ _ e=>e) (fun h' u tk hk=>?_) (z2h (by rw[z5o];exact z48 _ _) o3);have I2:∀tk',Inv X pins σ H1 { s1 with heap:=h',toks:=tk' }:=fun tk'=>I1.kept (t':=tk') hk;refine wpAny_formatField_str ?_ ?_ (z2h (by rw[z5o];exact z48 _ _) o3)
 · exact⟨o3,joinParts_nilE (joinParts_nil (h _ _ _ ((I2 tk).tok _)) o3)⟩
 · exact⟨o3,joinParts_nilE (joinParts_nil (h _ _ _ ((I2 _).tok _)) o3)⟩
theorem zor{x y:Str}{pl:Sem Bool}(hx:zx2 X.K C fI)(hb:XBase X.K X.mg b)(hs:XSet X.K C n)(hr:Room k X.A)
   (h0:X.N[0]? = some x:=by rfl) (h1:X.N[1]? = some y:=by rfl) (v0:Vis X.env.scope x:=by exact Or.inl rfl) (v1:Vis X.env.scope y:=by exact Or.inl rfl) (hg:Gl X b:=by rfl)
   (d0:(x==("__debug__":Str))=false:=by decide) (c0:(x==("__classdict__":Str))=false:=by decide) (d1:(y==("__debug__":Str))=false:=by decide) (c1:(y==("__classdict__":Str))=false:=by decide) (db:(b==("__debug__":Str))=false:=by decide)
   (w1:swapsWith (.Call (.Attribute (.Name b p1) "__init__" p2) [.Name x p3,.JoinedStr [.Constant (.str txt) jj p4,.FormattedValue (.Name y p5) 114 none p6] p7] [] p8) none p9.line X.env=pure false:=by rfl)
   (w2:swapsWith (.Name y q3) (some (.Attribute (.Name x q1) n q2)) q4.line X.env=pure false:=by rfl)
   (hst:starEach [.Name x p3,.JoinedStr [.Constant (.str txt) jj p4,.FormattedValue (.Name y p5) 114 none p6] p7] X.env=(false,eval (.Name x p3) X.env)::starEach [.JoinedStr [.Constant (.str txt) jj p4,.FormattedValue (.Name y p5) 114 none p6] p7] X.env:=by exact zx rfl)
   (hst2:starEach [.JoinedStr [.Constant (.str txt) jj p4,.FormattedValue (.Name y p5) 114 none p6] p7] X.env=(false,eval (.JoinedStr [.Constant (.str txt) jj p4,.FormattedValue (.Name y p5) 114 none p6] p7) X.env)::starEach [] X.env:=by exact zx rfl)
   (hpl:(backTo p8 (starEach [.JoinedStr [.Constant (.str txt) jj p4,.FormattedValue (.Name y p5) 114 none p6] p7] X.env)).any (·.1)=false:=by exact qt rfl)
   (ht:eval (.Call (.Attribute (.Name b p1) "__init__" p2) [.Name x p3,.JoinedStr [.Constant (.str txt) jj p4,.FormattedValue (.Name y p5) 114 none p6] p7] [] p8) X.env=(do
     let ov <-eval (.Name b p1) X.env
     standAt p2.atName
     let(f,first) <-holding [ov] (getMethod ov "__init__" pl)
     callWith p8 f first (backTo p8 (starEach [.Name x p3,.JoinedStr [.Constant (.str txt) jj p4,.FormattedValue (.Name y p5) 114 none p6] p7] X.env)) (backToKw p8 (keywordEach [] X.env))):=by rfl) :
   PSs X [.Expr (.Call (.Attribute (.Name b p1) "__init__" p2) [.Name x p3,.JoinedStr [.Constant (.str txt) jj p4,.FormattedValue (.Name y p5) 114 none p6] p7] [] p8) p9,.Assign [.Attribute (.Name x q1) n q2] (.Name y q3) q4] (zrm X.K C txt n):=by
 obtain⟨S,hm,s1,s2,s3⟩:=hb.ex;obtain⟨N,nm,q,bs,bm,hdct,sn,sub,ab,col,dd,k0,k1,k2,k3,k5,mN,hbm,hmi,hk⟩:=hx;intro pins s σ H D I t;obtain⟨e,p,ws,ds,g0,g1,he,hp,hi,ok,kk⟩:=t;have second:∀s2,Inv X pins σ H s2->wpAny (model X.prog X.w) X.A (execs [.Assign [.Attribute (.Name x q1) n q2] (.Name y q3) q4] X.env) (SP X pins D) X.xe s2:=fun s2 I2=>by
   refine z3t (z4u (thn (zgm h1 v1 d1 c1 pins s2 σ H (fun v H1=>v=.ref p/\H1=H) I2 ⟨_,g1,rfl,rfl⟩) fun u s3 ⟨v,H1,I3,r,ev,eH⟩=>?_) w2);subst ev;subst eH;cases(show u=Value.ref p from r);refine thn (zgm h0 v0 d0 c0 pins s3 σ H1 (fun v H2=>v=.ref e/\H2=H1) I3 ⟨_,g0,rfl,rfl⟩) fun u s4 ⟨v,H2,I4,r,ev,eH⟩=>?_;subst ev;subst eH;cases(show u=Value.ref e from r);obtain⟨t0,ee⟩:=(show ExN e C s4.heap from(I4.hok e _ he).1)
   have ne:s4.heap.objs.size≠e:=z5d (z2c ee);have hdx:H2 s4.heap.objs.size=none:=I4.hok.fresh (z16 _);refine zyw I4.kIn hs ee fun h' tk a1 a2 a3=>?_;have mu:Mut (H2 e):=by rw[he];trivial
   have new:ObjOk X.prog X.w (upd H2 e (.ext (ExD e C s4.heap.objs.size))) h' e (.ext (ExD e C s4.heap.objs.size)):=⟨⟨t0,a1⟩,⟨_,a1⟩,fun h1 h2 ⟨t,z⟩ kz=>⟨t,kz _ z⟩⟩
   have ok1:=I4.hok.write mu (.inl rfl) (fun b u nb eb=>a3 b u nb eb) ⟨_,a1⟩ new;have un1:=Un.write (fs:=X.fs) (ex:=[]) (H:=H2) (h:=s4.heap) (o:=.ext (ExD e C s4.heap.objs.size)) mu (.inl rfl) (fun b u nb eb=>a3 b u nb eb) ⟨_,a1⟩;have nd:upd H2 e (.ext (ExD e C s4.heap.objs.size)) s4.heap.objs.size=none:=by rw[zw ne];exact hdx
   have ok2:HOk X.prog X.w (upd (upd H2 e (.ext (ExD e C s4.heap.objs.size))) s4.heap.objs.size (.xd [(n,.ref p)])) h':=zmr ok1 nd ⟨_,a2,fun f=>by
     by_cases hf:f=n
     · subst hf;simp only[z37];simp[RelO,L2.RelV]
     · simp only[z2w hf];have:(f==n)=false:=by simpa using hf
       simp[List.lookup,this,RelO]⟩
   exact z4l ⟨σ,_,I4.un (t':=tk) (zp6 un1 (z3j (z16 _)) nd) ok2,kk _ hdx ne⟩
 refine z3t (wpAny_Expr_any (methodCall_KW (pl:=pl) (kn I hg hm ?_ db) ht) I.quiet w1);refine method_cls I.kIn s3 (cls_value I.kIn s1 s2 (by decide +kernel) ?_);have I0:=I.tok (s.toks+1);refine callWith_builtin1 ?_ hst hpl;rw[hst];show wpAny _ _ (spliced ((false,eval (.Name x p3) X.env)::backTo p8 (starEach [.JoinedStr [.Constant (.str txt) jj p4,.FormattedValue (.Name y p5) 114 none p6] p7] X.env))) _ _ _;refine z4n (thn (zgm h0 v0 d0 c0 pins _ σ H (fun v H1=>v=.ref e/\H1=H) I0 ⟨_,g0,rfl,rfl⟩) fun u sA ⟨v,H1,IA,r,ev,eH⟩=>?_);subst ev;subst eH;cases(show u=Value.ref e from r);rw[hst2];show wpAny _ _ (spliced ((false,eval (.JoinedStr [.Constant (.str txt) jj p4,.FormattedValue (.Name y p5) 114 none p6] p7) X.env)::[])) _ _ _;refine z4n (zut hr IA g1 hp hi ok h1 v1 d1 c1 fun yy tt sB IB=>Calls.spliced_nil ?_);obtain⟨t0,ee⟩:=(show ExN e C sB.heap from(IB.hok e _ he).1)
 obtain⟨z1,z2,z3⟩:=hk sB.heap IB.kIn;obtain⟨hB,gB,dB,tB,oB⟩:=sB;refine zwx z3 z1 ee fun h' t' a1 a2=>?_;have mu:Mut (H1 e):=by rw[he];trivial
 have new:ObjOk X.prog X.w (upd H1 e (.ext (ExN e C))) h' e (.ext (ExN e C)):=⟨⟨t',a1⟩,⟨_,a1⟩,fun h1 h2 ⟨t,z⟩ kz=>⟨t,kz _ z⟩⟩
 have IC:=IB.write (t':=tB) mu (.inl rfl) (fun b u nb eb=>a2 b u nb eb) ⟨_,a1⟩ new;have eH:upd H1 e (.ext (ExN e C))=H1:=by
   funext z;by_cases hz:z=e
   · subst hz;rw[jd,he]
   · rw[zw hz]
 rw[eH]at IC;exact second _ IC
end
def spX(K:zFr)(C:Addr)(txt n:Str):Sp:=fun vs H Q _=>∃e p ws ds,vs=[.ref e,.ref p]/\H e=some (.ext (ExN e C))/\SqT K H p ws/\ItsV ws ds/\zbs txt ds=true /\
 ∀dx,H dx=none->dx≠e->Q .non (upd (upd H e (.ext (ExD e C dx))) dx (.xd [(n,.ref p)]))
structure XInit (P:Program) (w:World) (K:zFr) (mg:zMg) (base:Heap) (k:Nat) (c txt n:Str):Prop where
 ex:∃(C fI:Addr) (fd:FuncData) (ps:List Str),mg c=some (.ref C)/\zx2 K C fI/\isFn K (.ref fI)=true/\FnOk P w K mg base CX0 k fI fd ps (spX K C txt n)/\Binds K fd ps []
structure HasXI (K:zFr) (mg:zMg) (c b n qual:Str) (st:Stmt):Prop where
 ex:∃(C fI:Addr) (fd:FuncData),FunD K "__init__" qual st fI fd .none/\mg c=some (.ref C)/\zx2 K C fI/\isFn K (.ref fI)=true/\XSet K C n
 base:XBase K mg b
section
variable {P:Program}{w:World}{K:zFr}{mg:zMg}{base:Heap}{k:Nat}{c b n txt qual:Str}{N ps:List Str}{st:Stmt}
theorem HasXI.xinit(h:HasXI K mg c b n qual st)(S:FnScope N ps (zi st))(hb:zrc "__init__" qual st ps)(hl:ps.length=2)
   (hbody:∀(C fI:Addr) (cdv:Value) (A:Around) (outer:List Env) (s:Shared) (H:Hp) (E:XK),zx2 K C fI->XSet K C n->Room k (A.deeper (envOfC qual (zi st) s.heap.objs.size fI cdv)) ->
     PSs (zd8 CX0 P w K mg base N qual (zi st) fI cdv A outer s H E) (j0 st) (zrm K C txt n)):XInit P w K mg base (k+1) c txt n:=by
 obtain⟨C,fI,fd,F,hm,hx,hf,hs⟩:=h.ex;refine⟨C,fI,fd,ps,hm,hx,hf,?_,F.binds0 hb⟩;obtain⟨oc,od,kV,doc,pm,an,cdv,ct,osl,rfl,lk,hcd⟩:=F.ex;refine ztq lk hcd S (fun vs H Q E h=>?_) fun A outer s H vs Q E hr hsp=>⟨zrm K C txt n,hbody C fI cdv A outer s H E hx hs hr,?_⟩
 · obtain⟨e,p,ws,ds,rfl,_⟩:=h;exact hl.symm
 · obtain⟨e,p,ws,ds,rfl,h1,h2,h3,h4,h5⟩:=hsp;exact⟨e,p,ws,ds,rfl,rfl,h1,h2,h3,h4,h5⟩
end
def ze7(c txt n:Str)(a:As):R:=fun ev S=>(a ev S).bind fun q=>match q.1 with
 | [.tup ds]=>(zj0 ds).bind fun ps=>if zbs txt ps=true then some (c,q.2++[.xd n (.tup ds)])else none
 |_=>none
section
variable {X:Cx}{e:Expr}{a:As}{c txt n:Str}{k:Nat}{np cpos pos:Pos}
theorem zlm(xi:XInit X.prog X.w X.K X.mg X.base k c txt n)(hr:Room (k+1) X.A)(ha:FA X [e] a)(hg:Gl X c:=by rfl)(he:starEach [e] X.env=(false,eval e X.env)::starEach [] X.env:=by exact zx rfl)(hcm:X.calm=true:=by rfl)(hdb:(c==("__debug__":Str))=false:=by decide)
   (hpl:(backTo cpos (starEach [e] X.env)).any (·.1)=false:=by exact qt rfl) :
   RS X (.Raise (some (.Call (.Name c np) [e] [] cpos)) none pos) (ze7 c txt n a):=by
 obtain⟨C,fI,fd,ps,hm,hx,hfn,F,hb⟩:=xi.ex;obtain⟨N,nm,q,bs,bm,hdct,sn,sub,ab,col,dd,k0,k1,k2,k3,k5,mN,hbm,hmi,hk⟩:=hx;intro pins s σ H E Q hxe I t;obtain⟨ρ,ev,S,nm',S',hE,hS,hf,CC,hC,kk⟩:=t;obtain⟨⟨ws,S1⟩,q1,hf1⟩:=zy hf;dsimp only at hf1;split at hf1
 · rename_i ds;obtain⟨ps',q2,hf2⟩:=zy hf1;split at hf2
   · rename_i hok;cases hf2;rw[hm]at hC;cases hC;have hA:=ha cpos pins s σ H (fun vs H1=>∃ρ1,Ext ρ H ρ1 H1/\StOk X.K X.mg ρ1 H1 S1/\RepL X.K X.mg ρ1 H1 [.tup ds] vs) I ⟨ρ,ev,S,_,S1,hE,hS,q1,fun vs ρ1 H1 E1 hS1 r1=>⟨ρ1,E1,hS1,r1⟩⟩;rw[arm_exec_Raise];refine z12 (z42 (zsi (nm:=nm) (q:=q) (N:=N) (C:=C) (bs:=bs) (bm:=bm) (hdct:=hdct) (sn:=sn) (sub:=sub) (ab:=ab) (col:=col) (dd:=dd) (k0:=k0) (k1:=k1) (k2:=k2) (k3:=k3) (k5:=k5) (newId:="ValueError.__new__") hbm (I.ok.hd hcm)
       (z12 (thn (wpAny_Call_ofName (kn I hg hm ?_ hdb)) fun v s₃ h₃=>z12 (z42 (z2a h₃))))))
     unfold callWith;rw[he]at hA;simp only[hpl];rw[he];refine z12 (wpAny_holding (z41 (thn hA fun us s2 ⟨vs,H2,I2,r2,ρ1,E1,hS1,rl⟩=>z12 (z42 ?_))));unfold RepL at rl;obtain⟨v,r',rfl,rv,rl⟩:=rl;unfold RepL at rl;subst rl;obtain⟨p,ws,rfl,tt,rds⟩:=rv.refT;obtain⟨u,rfl,ru⟩:=r2.one;cases(show u=Value.ref p from ru);obtain⟨z1,z2,z3⟩:=hk s2.heap I2.kIn;obtain⟨h2,g2,d2,t2,o2⟩:=s2;have hty:typeIn X.K (.ref fI)=some (.type "function"):=z3k.mp hfn;obtain⟨oI,eI,cI⟩:∃oI,h2.get? fI=some oI/\oI.cls=.type "function":=by obtain⟨o,hl,ho⟩:=Option.map_eq_some_iff.mp (show(X.K.lookup fI).map (fun x=>x.cls)=some (.type "function")from hty);exact⟨o,I2.kIn _ _ hl,ho⟩
     refine z12 (wpAny_keeperOf_exc z1 ?_);refine z12 (zxq z3 z1 z2 hmi eI cI (fun h' x mk=>?_) (by rw[z3a];exact Nat.succ_le_of_lt (by decide)));have hx0:H2 x=none:=zo4 (fun b u q=>za5 (I2.hok b u q)) mk.new;obtain⟨tx,ex,_⟩:=mk.there;have new:ObjOk X.prog X.w (upd H2 x (.ext (ExN x C))) h' x (.ext (ExN x C)):=⟨⟨tx,ex⟩,⟨_,ex⟩,fun h1 h2 ⟨t,z⟩ kz=>⟨t,kz _ z⟩⟩
     have ok3:HOk X.prog X.w (upd H2 x (.ext (ExN x C))) h':=zmr (I2.hok.kept mk.keeps) hx0 new;have I3:Inv X pins σ (upd H2 x (.ext (ExN x C))) ⟨h',g2,d2,t2,o2⟩:=I2.un (t':=t2) (zp6 (Un.kept mk.keeps) mk.new hx0) ok3;have sq:SqT X.K (upd H2 x (.ext (ExN x C))) p ws:=by
       have t3:TupAt X.K ρ1 (upd H2 x (.ext (ExN x C))) p ws:=by
         rcases tt with⟨n0,tt | ⟨o,tt⟩⟩ | tt
         · exact .inl ⟨n0,.inl (by rw[zw (z9 tt hx0)];exact tt)⟩
         · exact .inl ⟨n0,.inr ⟨o,by rw[zw (z9 tt hx0)];exact tt⟩⟩
         · exact .inr tt
       exact t3.sq
     have vv:Vals [V.ref x,V.ref p] [Value.ref x,Value.ref p]:=.cons rfl (.cons rfl .nil);have hsp:spX X.K C txt n [V.ref x,V.ref p] (upd H2 x (.ext (ExN x C))) (fun v H'=>v=.non/\∃dx,H2 dx=none/\dx≠x/\H'=upd (upd (upd H2 x (.ext (ExN x C))) x (.ext (ExD x C dx))) dx (.xd [(n,.ref p)])) (fun _ _ _=>False) :=
       ⟨x,p,ws,ps',rfl,jd,sq,zml q2 rds,hok,fun dx n1 n2=>⟨rfl,dx,by rw[zw n2]at n1;exact n1,n2,rfl⟩⟩
     have hlen:=F.len _ _ _ _ hsp;refine z4i (z4x (F.run _ X.stack ⟨h',g2,d2,t2,o2⟩ _ ⟨[Value.ref x,Value.ref p],[]⟩ [Value.ref x,Value.ref p] _ _ _ (hr.make C [Value.ref p] []) (I3.env0.make C [Value.ref p] []) (hb _ [Value.ref x,Value.ref p] I3.kIn hlen) vv hsp) fun r s' hq=>?_)
     match r,hq with
     | .error e',hq=>exact(show False from hq).elim
     | .ok .next,hq=>exact hq.elim
     | .ok .brk,hq=>exact hq.elim
     | .ok .cont,hq=>exact hq.elim
     | .ok (.ret u),hq=>
       obtain⟨v,H',os',bare',un',hok',rv',rfl,dx,ndx,nex,rfl⟩:=hq;cases(show u=Value.none from rv');refine⟨rfl,z12 (wpAny_holding (wpAny_point (z2a ?_)))⟩;have I4:Inv X pins σ _ s':=I3.call' os' un' hok' bare' fun b hb=>absurd hb (by simp);obtain⟨y1,_,_⟩:=hk s'.heap I4.kIn;have ee:(upd (upd (upd H2 x (.ext (ExN x C))) x (.ext (ExD x C dx))) dx (.xd [(n,.ref p)])) x=some (.ext (ExD x C dx)):=by rw[zw (z26 nex),jd]
       obtain⟨te,he'⟩:=(show ExD x C dx s'.heap from(hok' x _ ee).1)
       refine⟨x,te,some dx,rfl,y1,he',?_⟩;have eH:(upd H2 dx (.xd [(n,.ref p)]))=fun z=>if z=x then none else (upd (upd (upd H2 x (.ext (ExN x C))) x (.ext (ExD x C dx))) dx (.xd [(n,.ref p)])) z:=by
         funext z;by_cases hz:z=x
         · subst hz;rw[z2v rfl,zw (z26 nex)];exact hx0
         · rw[z2w hz];by_cases hd:z=dx
           · subst hd;rw[jd,jd]
           · rw[zw hd,zw hd,zw hz,zw hz]
       have out:∀z,z≠x->(upd H2 dx (.xd [(n,.ref p)])) z=(upd (upd (upd H2 x (.ext (ExN x C))) x (.ext (ExD x C dx))) dx (.xd [(n,.ref p)])) z:=fun z hz=>by rw[eH];exact z2w hz
       have nx2:∀{z:Addr}{o:Obj},h2.get? z=some o->z≠x:=fun q z=>by subst z;rw[mk.new]at q;cases q
       have nxH:∀{z:Addr}{o:HO},H2 z=some o->z≠x:=fun q=>z9 q hx0;have h3n:∀{z:Addr},z≠x->(upd H2 x (.ext (ExN x C))) z=H2 z:=fun hz=>zw hz;have unX:Un (frs X.stack) [] H2 (upd H2 dx (.xd [(n,.ref p)])) h2 s'.heap:={
         keep:=fun z o q nz hz hx=>un'.keep z o (mk.keeps z o q) (by rw[h3n (nx2 q)];exact nz) hz hx
         slot:=fun z o q nz hz hx=>un'.slot z o (mk.keeps z o q) (by rw[h3n (nx2 q)];exact nz) hz hx
         free:=fun z o q nz hx=>by rw[out z (nx2 q)];exact un'.free z o (mk.keeps z o q) (by rw[h3n (nx2 q)];exact nz) hx
         there:=fun z o q hx=>un'.there z o (mk.keeps z o q) hx
         tups:=fun z xs q=>by rw[out z (nxH q)];exact un'.tups z xs (by rw[h3n (nxH q)];exact q)
         frzs:=fun z o u q=>by rw[out z (nxH q)];exact un'.frzs z o u (by rw[h3n (nxH q)];exact q)
         tbls:=fun z ps q=>by rw[out z (nxH q)];exact un'.tbls z ps (by rw[h3n (nxH q)];exact q) }
       have okX:HOk X.prog X.w (upd H2 dx (.xd [(n,.ref p)])) s'.heap:=fun z o q=>by
         have hz:z≠x:=fun y=>by subst y;rw[zw (z26 nex),hx0]at q;cases q
         rw[out z hz]at q;have nn:∀{y:Addr}{o:HO},(upd (upd (upd H2 x (.ext (ExN x C))) x (.ext (ExD x C dx))) dx (.xd [(n,.ref p)])) y=some o->(∀φ,o≠.ext φ)->y≠x:=fun {y o} qy no z=>by subst z;rw[ee]at qy;exact no _ (z2n qy).symm
         exact(hok' z o q).stay (fun _ _ _ q=>q) (fun y qy=>by rw[out y (nn qy fun _ w=>by cases w)];exact qy) fun y xs qy=>by rw[out y (nn qy fun _ w=>by cases w)];exact qy
       refine hxe.first I2 os' bare' unX okX ⟨mk.new,by rw[zw (z26 nex)];exact hx0,_,_,he',rfl,rfl,rfl,rfl⟩ ?_
       have e2:=zce hS1 (p:=dx) (.xd [(n,.ref p)]) ndx;refine kk (.ref dx) (ρ1++[dx]) _ (E1.trans e2) (hS1.add ndx ⟨.ref p,jd,rv.mono e2⟩) fun _=>⟨dx,n,.tup ds,rfl,by simp,by simp⟩
   · cases hf2
 · cases hf1
end
def zkh(c n:Str)(f:E):E:=fun ev S=>(f ev S).bind fun p=>match p.1 with
 | .obj i=>(match p.2[i]? with
   | some (.xc c' j)=>if c'=c then (match p.2[j]? with
     |some (.xd n' d)=>if n'=n then some (d,p.2)else none
     |_=>none)else none
   |_=>none)
 |_=>none
structure XFld (K:zFr) (mg:zMg) (c n:Str):Prop where
 ex:∃C,mg c=some (.ref C)/\ExcIs K C/\findIn K (.ref C) n=some none/\hasDictIn K C=true
section
variable {X:Cx}{o:Expr}{f:E}{c n:Str}{pos:Pos}
theorem znh{ev:Ev}{S S':Sto}{d:D}(h:zkh c n f ev S=some (d,S')):∃i j,f ev S=some (.obj i,S')/\S'[i]? = some (.xc c j)/\S'[j]? = some (.xd n d):=by
 obtain⟨⟨x,S1⟩,q1,h⟩:=zy h;dsimp only at h;cases x with
 | obj i=>
   dsimp only at h;cases hi:S1[i]? with
   |none=>rw[hi]at h;cases h
   | some m=>
     rw[hi]at h;cases m with
     | xc c' j=>
       dsimp only at h;by_cases ec:c'=c
       · rw[z2v ec]at h;cases hj:S1[j]? with
         |none=>rw[hj]at h;cases h
         | some m=>
           rw[hj]at h;cases m with
           | xd n' d'=>
             dsimp only at h;by_cases en:n'=n
             · rw[z2v en]at h;cases h;subst ec;subst en;exact⟨i,j,q1,hi,hj⟩
             · rw[z2w en]at h;cases h
           |_=>cases h
       · rw[z2w ec]at h;cases h
     |_=>cases h
 |_=>cases h
theorem zm3(hx:XFld X.K X.mg c n)(ho:FE X o f)(hb:attributeBase o n X.env (eval o X.env)=eval o X.env:=by rfl):FE X (.Attribute o n pos) (zkh c n f):=by
 obtain⟨C,hm,hz,hn,hd⟩:=hx.ex;intro pins s σ H Q I t;obtain⟨ρ,ev,S,d,S1,hE,hS,hf,k⟩:=t;obtain⟨i,j,q1,hi,hj⟩:=znh hf;refine znz hb (thn (ho pins s σ H (fun v H1=>∃ρ1,Ext ρ H ρ1 H1/\StOk X.K X.mg ρ1 H1 S1/\Rep X.K X.mg ρ1 H1 (.obj i) v) I ⟨ρ,ev,S,_,S1,hE,hS,q1,fun v ρ1 H1 a b c=>⟨ρ1,a,b,c⟩⟩) fun u s1 ⟨v,H1,I1,r,ρ1,E1,hS1,rx⟩=>?_);unfold Rep at rx;obtain⟨a,rfl,ha⟩:=rx;cases(show u=Value.ref a from r);obtain⟨C',dx,hC',hdx,hH⟩:=hS1.ob i _ a hi ha;rw[hm]at hC';cases hC';obtain⟨ob,vs,e1,e2,e3,e4⟩:=(I1.hok a _ hH).1;obtain⟨v,hv,rv⟩:=hS1.ob j _ dx hj hdx;obtain⟨mA,ns,rel⟩:=(show ObjOk X.prog X.w H1 s1.heap dx (.xd [(n,v)])from I1.hok dx _ hv)
 obtain⟨w,hw,rw_⟩:=RelO.some_of (v:=v) (o:=mA n) (by have:=rel n;simpa using this);obtain⟨od,hod,hl⟩:=zgq ns;have ia:InstAt s1.heap a ob C (some od):=⟨e1,e2,by unfold notCls;rw[e4],by rw[e3];exact hod⟩
 exact ztu I1.kIn ia hz (findObj_own hd hn rfl (by rw[hl,hw])) (zgs rw_) ⟨v,H1,I1.tok _,rw_,k v ρ1 H1 E1 hS1 rv⟩
end
def zex(l:List Str)(c:Str):Bool:=decide (c∈l)
theorem zb4{P:Str->Prop}{l:List Str}(h:∀c∈l,P c):∀c,zex l c=true->P c:=fun c e=>h c (z5l e)
theorem zqq{mg:zMg}:∀c p,hNo c=some p->∃C,mg c=some (.ref C):=fun c p e=>nomatch e
theorem zmu{K:zFr}{mg:zMg}{cat no:Str->Bool}{i:Option Nat}{d:C}{T:Str}{f:Str->Option (Option Nat×C)}(h:∀c,cat c=true->CatB K mg c T true)(hf:∀c p,f c=some p->∃C,mg c=some (.ref C)) :
   ∀c p,hAs cat i d no f c=some p->∃C,mg c=some (.ref C):=fun c p e=>by
 unfold hAs at e;split at e
 · rename_i hc;obtain⟨C,_,z,_⟩:=h c hc;exact⟨C,z⟩
 · split at e
   · exact hf c p e
   · cases e
def zm9(K:zFr)(C f:Addr):Bool:=match K.lookup C with
 | some ⟨.type "type",_,.cls cd,sl⟩=>(match cd.mro,sl.toList with
   | .ref C'::bm,[_,_,_,_,some (.builtin nid),_]=>decide (C'=C)&&decide (nid="ValueError.__new__")&&!cd.hasDel&&tailIn K zch bm&&nsOkIn K cd.ns&&(nsIn K cd.ns "__init__"==some (some (.ref f)))
   |_,_=>false)
 |_=>false
theorem zre{K:zFr}{C f:Addr}(q:zm9 K C f=true):zx2 K C f:=by
 unfold zm9 at q;split at q
 · rename_i dd cd sl ho;split at q
   · rename_i C' bm k0 k1 k2 k3 nid k5 hmro hs;simp only[z2t,z3k,z39,Bool.not_eq_true']at q;obtain⟨⟨⟨⟨⟨rfl,rfl⟩,hdel⟩,ht⟩,hok⟩,hni⟩:=q;obtain⟨nm,bs,mro,ns,qn,hd,sn,sub,ab,col,del⟩:=cd;dsimp only at hmro hdel hok hni;subst hmro;subst hdel;have hsl:sl=#[k0,k1,k2,k3,some (.builtin "ValueError.__new__"),k5]:=by
       cases sl with
       |mk l=>simp only at hs;subst hs;rfl
     subst hsl;unfold nsOkIn at hok;split at hok
     · rename_i oc od es ep osl hN;have hk:StrKeys es:=fun e he=>by
         have z:=z4r.mp hok e he;cases hkey:e.key with
         |str n t=>exact⟨n,t,rfl⟩
         |_=>rw[hkey]at z;cases z
       have hi:nsFind es "__init__"=some (.ref f):=by
         unfold nsIn at hni;rw[hN]at hni;dsimp only at hni;split at hni
         · rename_i en he;unfold nsFind findBy;rw[<-z5e,he];simpa using hni
         · first | cases hni | (split at hni<;>cases hni)
       exact⟨ns,nm,qn,bs,bm,hd,sn,sub,ab,col,dd,k0,k1,k2,k3,k5,nsFind es,zey ht,hi,fun h X=>⟨X _ _ ho,⟨_,es,ep,X _ _ hN,rfl,hk,fun _=>rfl⟩,tail_of_in X ht⟩⟩
     · cases hok
   · cases q
 · cases q
def z0x(K:zFr)(C:Addr):Bool:=match clsIn K C with
 | some cd=>(match cd.mro with
   | .ref _::.ref _::r=>r==zch
   |_=>false)
 |none=>false
section
variable {K:zFr}{mg:zMg}{h:Heap}
theorem has_xi(KX:K.In h)(G:h.Ns mainGlobals mg){cn bn n qual:Str}{st:Stmt}{C f S:Addr}{oc:Value}{od an:Option Addr}{osl:Array (Option Value)}{kV doc pm cdv ct:Value}(aC:nsIn K mainGlobals cn=some (some (.ref C)))(aS:nsIn K mainGlobals bn=some (some (.ref S)))
   (a:findIn K (.ref C) "__init__"=some (some (.ref f))) (i:isFn K (.ref f)=true)
   (l:K.lookup f=some ⟨oc,od,.func (fnOf "__init__" qual (za0 st) (j0 st) (zi st) .none kV doc pm an cdv ct),osl⟩) (c:codeIn K cdv qual=true) (k:keepIn K (.ref f)=true)
   (sa:findIn K (.ref C) "__setattr__"=some (some (.builtin "object.__setattr__"))) (na:findIn K (.ref C) n=some none) (hd:hasDictIn K C=true)
   (x1:zm9 K C f=true) (x2:z0x K C=true) (r1:readsIn K S (.type "type")=true) (r2:findCls K (.ref S) (.type "type") "__init__"=some (.val (.builtin "ValueError.__init__"))) (r3:specialIn K (.ref S) "__getattribute__"=some (some (.builtin "type.__getattribute__"))) :
   HasXI K mg cn bn n qual st:=by
 refine⟨⟨C,f,_,⟨⟨oc,od,kV,doc,pm,an,cdv,ct,osl,rfl,l,c⟩,k⟩,mg_of KX G aC,zre x1,i,sa,na,hd,?_⟩,⟨S,mg_of KX G aS,r1,r2,r3⟩⟩;unfold z0x at x2;split at x2
 · rename_i cd hc;split at x2
   · rename_i a b r hm;exact⟨cd,[.ref a,.ref b],hc,by rw[hm,z3k.mp x2];rfl,fun y hy=>by
       rcases z2l.mp hy with rfl | hy
       · exact⟨_,rfl⟩
       · rw[z20.mp hy];exact⟨_,rfl⟩⟩
   · cases x2
 · cases x2
theorem has_xf(KX:K.In h)(G:h.Ns mainGlobals mg){c n:Str}{C:Addr}(a:nsIn K mainGlobals c=some (some (.ref C)))(e:ExcI K mg c)(na:findIn K (.ref C) n=some none)(hd:hasDictIn K C=true):XFld K mg c n:=by obtain⟨C',m1,m2,_⟩:=e;rw[mg_of KX G a]at m1;cases m1;exact⟨C,mg_of KX G a,m2,na,hd⟩
theorem has_ctb(KX:K.In h)(G:h.Ns mainGlobals mg){c d:Str}{C D:Addr}{b:Bool}(a:nsIn K mainGlobals c=some (some (.ref C)))(a':nsIn K mainGlobals d=some (some (.ref D)))(h1:mroIn K C (.ref D)=some b)(h2:mroIn K D (.type "BaseException")=some true)
   (h3:typeIn K (.ref D)=some (.type "type")) (h4:hasDictIn K D=true):CatB K mg c d b:=⟨C,D,mg_of KX G a,mg_of KX G a',h1,h2,h3,zfp h4⟩
end
end F
namespace Mt
open PySem L2 F
def isI:D->Option Int
 | .int i=>some i
 |_=>none
def isS:D->Option Str
 | .str i=>some i
 |_=>none
def isP:D->Option (Int×Int)
 | .tup [.int a,.int b]=>some (a,b)
 |_=>none
def ad(k:Nat)(x y:D):D:=match k with
 |1=>(match isI x,isI y with | some i,some j=>.int (i+j) | _,_=>.non)
 |2=>(match isS x,isS y with | some i,some j=>.str (i++j) | _,_=>.non)
 |3=>(match isP x,isP y with | some p,some q=>.tup [.int (p.1*q.1%1000003),.int ((p.2*q.1+q.2)%1000003)] | _,_=>.non)
 |4=>(match isI x,isI y with | some i,some j=>.int (if j>i then j else i) | _,_=>.non)
 |_=>.non
theorem zky(a b c:Str):a++b++c=a++(b++c):=by show Str.mk ((a.cps++b.cps)++c.cps)=Str.mk (a.cps++(b.cps++c.cps));rw[Array.append_assoc]
theorem zrq(a b:Str):(a++b).length=a.length+b.length:=z5o a b
theorem ad1(x y:D):ad 1 x y=match isI x,isI y with | some i,some j=>.int (i+j) | _,_=>.non:=rfl
theorem ad2(x y:D):ad 2 x y=match isS x,isS y with | some i,some j=>.str (i++j) | _,_=>.non:=rfl
theorem ad4(x y:D):ad 4 x y=match isI x,isI y with | some i,some j=>.int (if j>i then j else i) | _,_=>.non:=rfl
theorem ad3(x y:D):ad 3 x y=match isP x,isP y with | some p,some q=>.tup [.int (p.1*q.1%1000003),.int ((p.2*q.1+q.2)%1000003)] | _,_=>.non:=rfl
theorem mm(a b m:Int):(a%m*b)%m=a*b%m:=by rw[Int.mul_emod,Int.emod_emod_of_dvd _ (Int.dvd_refl m),<-Int.mul_emod]
theorem mm'(a b m:Int):(b*(a%m))%m=b*a%m:=by rw[Int.mul_comm,mm,Int.mul_comm]
theorem am(a b m:Int):(a%m+b)%m=(a+b)%m:=by rw[Int.add_emod,Int.emod_emod_of_dvd _ (Int.dvd_refl m),<-Int.add_emod]
theorem zp4(k:Nat)(x y z:D):ad k (ad k x y) z=ad k x (ad k y z):=by
 match k with
 |0=>rfl
 | 1=>
   simp only[ad1];cases h1:isI x<;>cases h2:isI y<;>cases h3:isI z<;>simp[isI,Int.add_assoc]
 | 2=>
   simp only[ad2];cases h1:isS x<;>cases h2:isS y<;>cases h3:isS z<;>simp[isS,zky]
 | 3=>
   simp only[ad3];cases h1:isP x<;>cases h2:isP y<;>cases h3:isP z<;>simp[isP];rename_i p q r;constructor
   · rw[mm,mm',Int.mul_assoc]
   · rw[<-am (_*_) _ 1000003,mm,<-am (p.snd*_) _ 1000003,mm',am,am];congr 1;rw[Int.add_mul,Int.mul_assoc,Int.add_assoc]
 | 4=>
   simp only[ad4];cases h1:isI x<;>cases h2:isI y<;>cases h3:isI z<;>simp[isI]
   repeat' split
   all_goals omega
 |n+5=>rfl
def zb7(k:Nat):List D->D
 | []=>.non
 |t::r=>if k=0 then .non else r.foldl (ad k) t
theorem zgb(ts:List D):zb7 0 ts=.non:=by cases ts<;>rfl
theorem zm1(k:Nat)(a:D):∀(r:List D) (b:D),r.foldl (ad k) (ad k a b)=ad k a (r.foldl (ad k) b)
 | [],_=>rfl
 | c::r,b=>by show r.foldl (ad k) (ad k (ad k a b) c)=ad k a (r.foldl (ad k) (ad k b c));rw[zp4,zm1 k a r]
theorem yz{k:Nat}(hk:k≠0){xs ys:List D}(hx:xs≠[])(hy:ys≠[]):zb7 k (xs++ys)=ad k (zb7 k xs) (zb7 k ys):=by
 cases xs with
 |nil=>exact absurd rfl hx
 | cons x xs=>
   cases ys with
   |nil=>exact absurd rfl hy
   | cons y ys=>
     show(if k=0 then D.non else (xs++y::ys).foldl (ad k) x)=ad k (if k=0 then D.non else xs.foldl (ad k) x) (if k=0 then D.non else ys.foldl (ad k) y);rw[z2w hk,z2w hk,z2w hk,List.foldl_append,List.foldl_cons,zm1]
theorem zbm{k:Nat}(hk:k≠0)(t:D):zb7 k [t]=t:=by show(if k=0 then D.non else t)=t;rw[z2w hk]
def Th(k n:Nat)(d:D):Prop:=match k with
 |1=>∃i,d=.int i
 |2=>∃z,d=.str z/\z.length<=8*n
 |3=>∃a b,d=.tup [.int a,.int b]/\0<=a/\a<1000003/\0<=b/\b<1000003
 |4=>∃i,d=.int i
 |_=>False
def Thing(k:Nat)(d:D):Prop:=match k with
 |0=>(∃i,d=.int i)\/∃z,d=.str z/\z.length<=8
 |k=>Th k 1 d
theorem Th.ad{k n m:Nat}{x y:D}(hx:Th k n x)(hy:Th k m y):Th k (n+m) (ad k x y):=by
 match k,hx,hy with
 |0,h,_=>exact h.elim
 |1,⟨i,e⟩,⟨j,e'⟩=>subst e e';exact⟨_,rfl⟩
 |2,⟨i,e,h⟩,⟨j,e',h'⟩=>subst e e';exact⟨_,rfl,by rw[zrq];omega⟩
 | 3,⟨a,b,e,h⟩,⟨c,d,e',h'⟩=>
   subst e e';exact⟨_,_,rfl,z3c _ (by decide),z25 _ (by decide),z3c _ (by decide),z25 _ (by decide)⟩
 |4,⟨i,e⟩,⟨j,e'⟩=>subst e e';exact⟨_,rfl⟩
 |n+5,h,_=>exact h.elim
theorem Thing.th{k:Nat}{d:D}(hk:k≠0)(h:Thing k d):Th k 1 d:=by
 match k,hk,h with
 |0,hk,_=>exact absurd rfl hk
 |k+1,_,h=>exact h
theorem zio{k:Nat}(hk:k≠0):∀{ts:List D},ts≠[]->(∀t∈ts,Thing k t)->Th k ts.length (zb7 k ts)
 | [],h,_=>absurd rfl h
 | [t],_,h=>by rw[zbm hk];exact(h t (by simp)).th hk
 | t::u::r,_,h=>by rw[show t::u::r=[t]++(u::r)from rfl,yz hk (by simp) (by simp),zbm hk];have:=((h t (by simp)).th hk).ad (zio hk (ts:=u::r) (by simp) fun x hx=>h x (z2e _ hx));rw[Nat.add_comm]at this;exact this
def ord(a:Bool)(xs:List D):List D:=if a=true then xs.reverse else xs
theorem kv(a:Bool)(xs:List D):(ord a xs).length=xs.length:=by unfold ord;split<;>simp
def mkD(num:Int)(a:Bool)(l t r:D)(sz ht:Int)(to ba:D):D:=.tup [.int num,.bl a,l,t,r,.int sz,.int ht,to,ba]
inductive Mk (k:Nat):D->List D->Nat->Prop where
 |non:Mk k .non [] 0
 | node {num:Int}{a:Bool}{l t r:D}{lt rt:List D}{lh rh:Nat}:Mk k l lt lh->Mk k r rt rh->Thing k t->lh<=rh+1->rh<=lh+1 ->
   Mk k (mkD num a l t r (lt.length+1+rt.length:Nat) (max lh rh+1:Nat) (zb7 k (ord a (lt++t::rt))) (zb7 k (ord a (lt++t::rt)).reverse)) (ord a (lt++t::rt)) (max lh rh+1)
theorem Mk.things{k d ts h}(m:Mk k d ts h):∀t∈ts,Thing k t:=by
 induction m with
 |non=>intro t ht;cases ht
 | @node num a l t r lt rt lh rh ml mr ht _ _ il ir=>
   intro x hx;have:x∈lt++t::rt:=by
     unfold ord at hx;split at hx
     · exact z4z.mp hx
     · exact hx
   rcases z32.mp this with q | q
   · exact il x q
   · rcases z2l.mp q with rfl | q
     · exact ht
     · exact ir x q
end Mt
namespace Pg
open PySem L2 F Mt
variable {k:Nat}{d l r t:D}{ts lt rt:List D}{h lh rh:Nat}{S S1:Sto}{ev e:Ev}
theorem zp7:(2:Nat)<=sizeLine:=by decide
theorem zna(i j:Int):zak (.int i) (.int j)=some (.bl (i==j)):=rfl
theorem zlh{i:Nat}{a b:MO}(h:S[i]? = some a):(S.set i b)[i]? = some b:=z2r (z15.mp h).1
theorem zva{i j:Nat}(hij:i≠j)(b:MO):(S.set i b)[j]? = S[j]?:=z23 hij
def Ok(c:C)(ev:Ev)(S:Sto):Prop:=∃S',c ev S=some (.rt (.bl true),S')
theorem zj{i:Nat}{f:E}(h:f ev S=some (d,S1)):qo i f ev S=some (.nx (ev.set i (some d)),S1):=by simp[qo,h]
theorem zm{c:B}{a:C}(h:c ev S=some (false,S1)):sIf c a j8 ev S=some (.nx ev,S1):=by simp[sIf,h,j8]
theorem qd{c:B}{a b:C}{o:Out}{S2:Sto}(h:c ev S=some (true,S1))(q:a ev S1=some (o,S2)):sIf c a b ev S=some (o,S2):=by simp[sIf,h,q]
theorem q8{f:E}{b:Bool}(h:f ev S=some (.bl b,S1)):bE f ev S=some (b,S1):=by simp[bE,h]
theorem zt8{u:B}(h:u ev S=some (true,S1)):zhi u ev S=some (false,S1):=by simp[zhi,h]
theorem z07{u:B}(h:u ev S=some (false,S1)):zhi u ev S=some (true,S1):=by simp[zhi,h]
theorem zny{u v:B}(h:u ev S=some (false,S1)):zkn u v ev S=some (false,S1):=by simp[zkn,h]
theorem zhh{u v:B}{b:Bool}{S2:Sto}(h:u ev S=some (true,S1))(q:v ev S1=some (b,S2)):zkn u v ev S=some (b,S2):=by simp[zkn,h,q]
theorem zxw{u v:B}{b:Bool}{S2:Sto}(h:u ev S=some (false,S1))(q:v ev S1=some (b,S2)):bOr u v ev S=some (b,S2):=by simp[bOr,h,q]
theorem e_2{op:D->D->Option D}{f g:E}{x y z:D}{S2:Sto}(h:f ev S=some (x,S1))(q:g ev S1=some (y,S2))(o:op x y=some z):e2 op f g ev S=some (z,S2):=by simp[e2,h,q,o]
theorem qm{op:Sto->D->D->Option D}{f g:E}{x y z:D}{S2:Sto}(h:f ev S=some (x,S1))(q:g ev S1=some (y,S2))(o:op S2 x y=some z):e2s op f g ev S=some (z,S2):=by simp[e2s,h,q,o]
theorem e_1{op:D->Option D}{f:E}{x z:D}(h:f ev S=some (x,S1))(o:op x=some z):e1 op f ev S=some (z,S1):=by simp[e1,h,o]
theorem e_v{i:Nat}(h:ev[i]? = some (some d)):eV i ev S=some (d,S):=by simp[eV,h]
theorem e_k:eK d ev S=some (d,S):=rfl
theorem a_n:aN ev S=some ([],S):=rfl
theorem a_c{f:E}{g:As}{ds:List D}{S2:Sto}(h:f ev S=some (d,S1))(q:g ev S1=some (ds,S2)):aC f g ev S=some (d::ds,S2):=by simp[aC,h,q]
theorem zg{g:G}{a:As}{ds:List D}{S2:Sto}(h:a ev S=some (ds,S1))(q:g ds S1=some (d,S2)):zk g a ev S=some (d,S2):=by simp[zk,h,q]
theorem e_a{op:Sto->List D->Option D}{a:As}{ds:List D}(h:a ev S=some (ds,S1))(o:op S1 ds=some d):eA op a ev S=some (d,S1):=by simp[eA,h,o]
theorem jr{a:As}{ds:List D}(h:a ev S=some (ds,S1))(hl:ds.length<=16777216):kf a ev S=some (.tup ds,S1):=by have hz:sizeLine=16777216:=z3a;simp[kf,eA,h,hz,hl]
theorem zcs{a:As}{ds:List D}(h:a ev S=some (ds,S1))(hl:ds.length<=16777216):zd7 a ev S=some (.lst ds,S1):=by have hz:sizeLine=16777216:=z3a;simp[zd7,eA,h,hz,hl]
theorem zne{a:As}{ds:List D}(h:a ev S=some (ds,S1))(hl:ds.length<=16777216):zfn a ev S=some (.obj S1.length,S1++[.lst ds]):=by have hz:sizeLine=16777216:=z3a;simp[zfn,h,hz,hl]
theorem qs{c m:Str}{g:G}{f:E}{a:As}{i:Nat}{fs:List (Str×D)}{ds:List D}{S2 S3:Sto}(h:f ev S=some (.obj i,S1))(hi:ki c S1 (.obj i)=some (i,fs))(hm:fs.lookup m=none)(ha:a ev S1=some (ds,S2))(q:g (.obj i::ds) S2=some (d,S3)) :
   qc c m g f a ev S=some (d,S3):=by simp[qc,h,hi,hm,ha,q]
theorem zdv{c n:Str}{f:E}{i:Nat}{fs:List (Str×D)}(h:f ev S=some (.obj i,S1))(hi:ki c S1 (.obj i)=some (i,fs))(hm:fs.lookup n=some d):yw c n f ev S=some (d,S1):=by simp[yw,h,hi,hm]
theorem znd{f:E}{a b:Pt}{x:D}{lo hi:Option Int}{S2 S3:Sto}(h:f ev S=some (x,S1))(ha:a ev S1=some (lo,S2))(hb:b ev S2=some (hi,S3))(o:zwd x lo hi=some d):eSl f a b ev S=some (d,S3):=by simp[eSl,h,ha,hb,o]
theorem p_n:pN ev S=some (none,S):=rfl
theorem p_e{f:E}{i:Int}(h:f ev S=some (.int i,S1)):pE f ev S=some (some i,S1):=by simp[pE,h]
theorem zng{f g:E}{S2:Sto}(h:f ev S=some (.bl true,S1))(q:g ev S1=some (d,S2)):zuk f g ev S=some (d,S2):=by simp[zuk,h,q]
theorem z0d{f:E}{b:Bool}(h:f ev S=some (.bl b,S1)):zuj f ev S=some (.bl !b,S1):=by simp[zuj,e1,h]
theorem add_int(i j:Int):zz (.int i) (.int j)=some (.int (i+j)):=rfl
theorem sub_int(i j:Int):yd (.int i) (.int j)=some (.int (i-j)):=rfl
theorem zai{xs ys:List D}(h:xs.length+ys.length<=16777216):zz (.lst xs) (.lst ys)=some (.lst (xs++ys)):=by have hz:sizeLine=16777216:=z3a;simp[zz,hz,h]
theorem zf6{x:D}{xs ys:List D}(h:(x::xs).length+ys.length<=16777216):zz (.tup (x::xs)) (.tup ys)=some (.tup (x::xs++ys)):=by have hz:sizeLine=16777216:=z3a;simp only[zz,hz,z2v h]
def pl:Nat->D->Bool
 |_,.non=>true
 |_,.bl _=>true
 |_,.int _=>true
 |_,.str _=>true
 |n+1,.tup ds=>ds.all (pl n)
 |n+1,.lst ds=>ds.all (pl n)
 |_,_=>false
theorem zfm{f:D->D->Option Bool}:∀{ds:List D},(∀x∈ds,f x x=some true)->eqL f ds ds=some true
 | [],_=>rfl
 |x::ds,h=>by simp[eqL,h x (by simp),zfm fun y hy=>h y (z2e _ hy)]
theorem zjj:∀{n:Nat}{d:D},pl n d=true->eqN n d d=some true:=by
 intro n
 induction n with
 |zero=>intro d h;cases d<;>first | (cases h;done) | simp[eqN,eqF,zdr,eqV]
 | succ n ih=>
   intro d h;cases d with
   | tup ds=>
     have h:ds.all (pl n)=true:=h;exact zfm fun x hx=>ih (z2p.mp h x hx)
   | lst ds=>
     have h:ds.all (pl n)=true:=h;have q:eqL (eqN n) ds ds=some true:=zfm fun x hx=>ih (z2p.mp h x hx);simp[eqN,q]
   |_=>first | (cases h;done) | simp[eqN,eqF,zdr,eqV,zmo]
theorem zhw:∀{n m:Nat}{d:D},n<=m->pl n d=true->pl m d=true:=by
 intro n
 induction n with
 |zero=>intro m d _ h;cases d<;>first | (cases h;done) | (cases m<;>rfl)
 | succ n ih=>
   intro m d hm h;cases m with
   |zero=>omega
   | succ m=>
     cases d with
     |tup ds=>exact z2p.mpr fun x hx=>ih (by omega) (z2p.mp h x hx)
     |lst ds=>exact z2p.mpr fun x hx=>ih (by omega) (z2p.mp h x hx)
     |_=>first | (cases h;done) | rfl
theorem zzc{n:Nat}{x:D}(hx:Th k n x):pl 1 x=true:=by
 match k,hx with
 |0,h=>exact h.elim
 |1,⟨i,e⟩=>subst e;rfl
 |2,⟨z,e,_⟩=>subst e;rfl
 |3,⟨a,b,e,_⟩=>subst e;rfl
 |4,⟨i,e⟩=>subst e;rfl
 |n+5,h=>exact h.elim
theorem zi3{x:D}(hx:Thing k x):pl 1 x=true:=by
 match k,hx with
 |0,.inl ⟨i,e⟩=>subst e;rfl
 |0,.inr ⟨z,e,_⟩=>subst e;rfl
 |k+1,h=>exact zzc (k:=k+1) h
theorem z0b(h:pl 150 d=true):zak d d=some (.bl true):=by unfold zak;rw[zjj h];rfl
theorem zs6(h:pl 150 d=true):ze9 d d=some (.bl false):=by unfold ze9;rw[zjj h];rfl
theorem zvx(hts:∀x∈ts,Thing k x):pl 2 (.lst ts)=true:=z2p.mpr fun x hx=>zi3 (hts x hx)
theorem jz{N n:Nat}{c:C}{ds:List D}{S S':Sto}{d:D}(hl:ds.length=n)(h:c (ds.map some++List.replicate (N-ds.length) none) S=some (.rt d,S')):zv N n c ds S=some (d,S'):=by unfold zv;rw[z2v hl,h]
theorem zq{f:E}(h:f ev S=some (d,S1)):qx f ev S=some (.rt d,S1):=by simp[qx,h]
theorem qv{a b:C}(h:a ev S=some (.rt d,S1)):zt a b ev S=some (.rt d,S1):=by simp[zt,h]
theorem zuy{c:B}{a b:C}{o:Out}{S2:Sto}(h:c ev S=some (false,S1))(q:b ev S1=some (o,S2)):sIf c a b ev S=some (o,S2):=by simp[sIf,h,q]
theorem ze{a b:C}{o:Out}{S2:Sto}(h:a ev S=some (.nx e,S1))(q:b e S1=some (o,S2)):zt a b ev S=some (o,S2):=by simp[zt,h,q]
inductive Sv:D->Prop where
 |non:Sv .non
 |int (i:Int):Sv (.int i)
 |str (z:Str):Sv (.str z)
 |pair (a b:Int):Sv (.tup [.int a,.int b])
theorem zuw{n:Nat}{x:D}(hx:Th k n x):Sv x:=by
 match k,hx with
 |0,h=>exact h.elim
 |1,⟨i,e⟩=>subst e;exact .int _
 |2,⟨z,e,_⟩=>subst e;exact .str _
 |3,⟨a,b,e,_⟩=>subst e;exact .pair _ _
 |4,⟨i,e⟩=>subst e;exact .int _
 |n+5,h=>exact h.elim
theorem zoc{x:D}(hx:Thing k x):Sv x:=by
 match k,hx with
 |0,.inl ⟨i,e⟩=>subst e;exact .int _
 |0,.inr ⟨z,e,_⟩=>subst e;exact .str _
 |k+1,h=>exact zuw (k:=k+1) h
def low:Nat->Nat
 |0=>0
 |1=>1
 |h+2=>low (h+1)+low h+1
theorem zpa:∀h:Nat,low h<=low (h+1)
 |0=>by decide
 |1=>by decide
 | h+2=>by show low (h+2)<=low (h+2)+low (h+1)+1;omega
theorem zfe{a b:Nat}(h:a<=b):low a<=low b:=by
 induction b with
 |zero=>rw[Nat.le_zero.mp h];exact z16 _
 | succ b ih=>
   rcases z5g a (b+1)with q | q
   · exact z2h (ih (by omega)) (zpa b)
   · rw[Nat.le_antisymm h q];exact z16 _
theorem zwj{k:Nat}{d:D}{ts:List D}{h:Nat}(m:Mk k d ts h):low h<=ts.length:=by
 induction m with
 |non=>decide
 | @node num a l t r lt rt lh rh ml mr ht h1 h2 il ir=>
   rw[kv,z13,List.length_cons];rcases Nat.le_total lh rh with q | q
   · rw[Nat.max_eq_right q];cases rh with
     | zero => have:lh=0:=by omega
               subst this;show 1<=_;omega
     | succ rh=>
       show low (rh+1)+low rh+1<=_;have:=zfe (show rh<=lh by omega);omega
   · rw[Nat.max_eq_left q];cases lh with
     | zero => have:rh=0:=by omega
               subst this;show 1<=_;omega
     | succ lh=>
       show low (lh+1)+low lh+1<=_;have:=zfe (show lh<=rh by omega);omega
theorem zbe{x j:Int}(h:0<j):jq (.int x) (.int j)=some (.int (x%j)):=by simp[jq,F.opI,zzm,h]
theorem zh5{x j:Int}(h:0<j/\j<1073741824):zbr (.int x) (.int j)=some (.int (x/j)):=by simp[zbr,F.opI,z0f,h]
theorem zl8{x y:Int}(h:-(2^64)<x/\x<2^64):ye (.int x) (.int y)=some (.int (x*y)):=by simp only[ye,F.opI,zyb];rw[z2v (.inl h)];rfl
theorem zi7{x y:Int}(h:-(2^64)<y/\y<2^64):ye (.int x) (.int y)=some (.int (x*y)):=by simp only[ye,F.opI,zyb];rw[z2v (.inr (.inl h))];rfl
theorem zmg(S:Sto)(x:MO):(S++[x])[S.length]? = some x:=by simp
end Pg
namespace Pg
open PySem L2 F
noncomputable section
def up:Up:=⟨["Changed", "NoMore", "NoPlace"],["Changed", "NoBalance", "NoMore", "NoName", "NoNumber", "NoPlace", "NoRow", "NoSum", "NoThing", "NoWay", "ShelfError", "TooMany"]⟩
def ct_NoPlace:List Str:=["NoPlace"]
def no_NoPlace:List Str:=["Changed", "NoMore"]
def ct_NoMore:List Str:=["NoMore"]
def no_NoMore:List Str:=["Changed", "NoPlace"]
def ct_Changed:List Str:=["Changed"]
def no_Changed:List Str:=["NoMore", "NoPlace"]
def za4:C :=
 (zt (qo 2 (yw "Wood" "nodes_made" (eV 0))) (zt (j9 "Wood" "nodes_made" (eV 0) (e2 zz (eV 2) (eK (.int 1)))) (qx (e2 zz (kf (aC (eV 2) aN)) (eV 1)))))
def xf:G:=zv 3 2 za4
def zg3:C :=
 (sIf (bE (e2 zfa (eV 0) (eK (.int 2000)))) zbp j8)
def xu:G:=zv 1 1 zg3
def zp1:C :=
 (zt (sIf (bE (e2 zd6 (eV 0) (eK .non))) (qx (eK (.int 0))) j8) (qx (e2s qj (eV 0) (eK (.int 6)))))
def jp:G:=zv 1 1 zp1
def zbb:C :=
 (qx (e2 zz (eK (.int 1)) (eA zwk (aC (zk jp (aC (eV 0) aN)) (aC (zk jp (aC (eV 1) aN)) aN)))))
def ka:G:=zv 2 2 zbb
def zcm:C :=
 (qx (e2 zco (eA zx0 (aC (e2 yd (zk jp (aC (eV 0) aN)) (zk jp (aC (eV 1) aN))) aN)) (eK (.int 1))))
def xr:G:=zv 2 2 zcm
def zxr:C :=
 (zt (sIf (bE (e2 zd6 (eV 0) (eK .non))) (qx (eK (.int 0))) j8) (qx (e2s qj (eV 0) (eK (.int 5)))))
def jk:G:=zv 1 1 zxr
def zcl:C :=
 (qx (e2 zz (e2 zz (zk jk (aC (eV 0) aN)) (eK (.int 1))) (zk jk (aC (eV 1) aN))))
def yf:G:=zv 2 2 zcl
def zxv:C :=
 (zt (sIf (bE (e2 zd6 (eV 0) (eK .non))) (qx (eK .non)) j8) (qx (e2s qj (eV 0) (eK (.int 8)))))
def zdp:G:=zv 1 1 zxv
def ft:Str->Option G:=fun x=>
 none
def zef:C :=
 (zt (qo 4 (eV 2)) (zt (sIf (bE (e2 km (eV 3) (eK .non))) (qo 4 (zba ft (eV 0) (aC (zk zdp (aC (eV 3) aN)) (aC (eV 4) aN)))) j8) (zt (sIf (bE (e2 km (eV 1) (eK .non))) (qo 4 (zba ft (eV 0) (aC (eV 4) (aC (zk zdp (aC (eV 1) aN)) aN)))) j8) (qx (eV 4)))))
def ym:G:=zv 5 4 zef
def zt4:C :=
 (zt (sIf (bE (e2 zd6 (eV 0) (eK .non))) (qx (eK .non)) j8) (qx (e2s qj (eV 0) (eK (.int 7)))))
def y9:G:=zv 1 1 zt4
def zg2:C :=
 (zt (qo 4 (eV 2)) (zt (sIf (bE (e2 km (eV 1) (eK .non))) (qo 4 (zba ft (eV 0) (aC (zk y9 (aC (eV 1) aN)) (aC (eV 4) aN)))) j8) (zt (sIf (bE (e2 km (eV 3) (eK .non))) (qo 4 (zba ft (eV 0) (aC (eV 4) (aC (zk y9 (aC (eV 3) aN)) aN)))) j8) (qx (eV 4)))))
def zau:G:=zv 5 4 zg2
def za2:C :=
 (zt (sIf (bE (e2 zd6 (eV 0) (eK .non))) (qx (kf (aC (eK .non) (aC (eK .non) aN)))) j8) (qx (kf (aC (zk zau (aC (eV 0) (aC (eV 1) (aC (eV 2) (aC (eV 3) aN))))) (aC (zk ym (aC (eV 0) (aC (eV 1) (aC (eV 2) (aC (eV 3) aN))))) aN)))))
def kj:G:=zv 4 4 za2
def zia:C :=
 (zt (qo 4 (zk yf (aC (eV 1) (aC (eV 3) aN)))) (zt (xk (zk xu (aC (eV 4) aN))) (zt (sIf (zhi (bE (zk xr (aC (eV 1) (aC (eV 3) aN))))) zbp j8) (zt (qo 5 (kf (aC (eV 4) (aC (zk ka (aC (eV 1) (aC (eV 3) aN))) aN)))) (zt (qo 6 (zk kj (aC (yw "Wood" "adding" (eV 0)) (aC (eV 1) (aC (eV 2) (aC (eV 3) aN)))))) (qx (qc "Wood" "numbered" xf (eV 0) (aC (e2 zz (e2 zz (kf (aC (eK (.bl false)) (aC (eV 1) (aC (eV 2) (aC (eV 3) aN))))) (eV 5)) (eV 6)) aN))))))))
def z8:G:=zv 7 4 zia
def zt6(self:G):C :=
 (zt (sIf (bE (e2 zak (eV 2) (eV 3))) (qx (eK .non)) j8) (zt (qo 4 (e2 zbr (e2 zz (eV 2) (eV 3)) (eK (.int 2)))) (zt (qo 5 (zk (self) (aC (eV 0) (aC (eV 1) (aC (eV 2) (aC (eV 4) aN)))))) (zt (qo 6 (zk (self) (aC (eV 0) (aC (eV 1) (aC (e2 zz (eV 4) (eK (.int 1))) (aC (eV 3) aN)))))) (qx (qc "Wood" "node" z8 (eV 0) (aC (eV 5) (aC (e2s qj (eV 1) (eV 4)) (aC (eV 6) aN)))))))))
def zfj:Nat->G
 |0=>fun _ _=>none
 |k+1=>zv 7 4 (zt6 (zfj k))
def znt:C :=
 (zt (xk (zk xu (aC (eA zas (aC (eV 1) aN)) aN))) (qx (zk (zfj 40) (aC (eV 0) (aC (eV 1) (aC (eK (.int 0)) (aC (eA zas (aC (eV 1) aN)) aN)))))))
def yr:G:=zv 2 2 znt
def zao:C :=
 (zt (j9 "Shelf" "wood" (eV 0) (eV 1)) (zt (j9 "Shelf" "held" (eV 0) (eK .non)) (zt (j9 "Shelf" "done" (eV 0) (zfn aN)) (sIf (bE (e2 km (eV 2) (eK .non))) (j9 "Shelf" "held" (eV 0) (zk yr (aC (eV 1) (aC (eV 2) aN)))) j8))))
def z5:G:=zv 3 3 zao
def zg7:C :=
 (qx (yw "Shelf" "held" (eV 0)))
def jc:G:=zv 1 1 zg7
def zxs:C :=
 (zt (sIf (bE (e2 zak (e2s qj (eV 0) (eK (.int 1))) (eV 1))) (qx (kf (aC (e2s qj (eV 0) (eK (.int 2))) (aC (e2s qj (eV 0) (eK (.int 3))) (aC (e2s qj (eV 0) (eK (.int 4))) (aC (eK (.bl false)) aN)))))) j8) (qx (kf (aC (e2s qj (eV 0) (eK (.int 4))) (aC (e2s qj (eV 0) (eK (.int 3))) (aC (e2s qj (eV 0) (eK (.int 2))) (aC (eK (.bl true)) aN)))))))
def zjf:G:=zv 2 2 zxs
def zp2(self:G):C :=
 (zt (sIf (bE (e2 zd6 (eV 0) (eK .non))) zvc j8) (zt (qo 3 (zk zjf (aC (eV 0) (aC (eV 1) aN)))) (zt (xk (zk (self) (aC (e2s qj (eV 3) (eK (.int 0))) (aC (e2s qj (eV 3) (eK (.int 3))) (aC (eV 2) aN))))) (zt (yk (eV 2) (e2s qj (eV 3) (eK (.int 1)))) (xk (zk (self) (aC (e2s qj (eV 3) (eK (.int 2))) (aC (e2s qj (eV 3) (eK (.int 3))) (aC (eV 2) aN)))))))))
def zcx:Nat->G
 |0=>fun _ _=>none
 |k+1=>zv 4 3 (zp2 (zcx k))
def zdz:C :=
 (zt (qo 1 (zfn aN)) (zt (xk (zk (zcx 40) (aC (eV 0) (aC (eK (.bl false)) (aC (eV 1) aN))))) (qx (eV 1))))
def zaa:G:=frz (zv 2 1 zdz)
def zei:C :=
 (qx (zk zaa (aC (yw "Shelf" "held" (eV 0)) aN)))
def ke:G:=zv 1 1 zei
def zf2:C :=
 (qx (yu (aC (yw "Shelf" "done" (eV 0)) aN)))
def x4:G:=zv 1 1 zf2
def zcf:C :=
 (zt (j9 "Strict" "shelf" (eV 0) (eV 1)) (zt (j9 "Strict" "stood" (eV 0) (qc "Shelf" "make" jc (eV 1) aN)) (zt (j9 "Strict" "met" (eV 0) (eA zas (aC (qc "Shelf" "deeds" x4 (eV 1) aN) aN))) (j9 "Strict" "mark" (eV 0) (eK (.int 0))))))
def qz:G:=zv 2 2 zcf
def yc:C :=
 (zt (j9 "Wood" "adding" (eV 0) (eV 1)) (j9 "Wood" "nodes_made" (eV 0) (eK (.int 0))))
def jg:G:=zv 2 2 yc
def zh9:C :=
 (zt (qo 2 (e2 zz (e2 ye (e2 ye (eV 1) (eV 1)) (eK (.int 7919))) (eK (.int 17)))) (zt (sIf (bE (e2 zfa (eA zas (aC (eV 0) aN)) (eK (.int 0)))) (qo 2 (e2 zz (e2 jq (e2s qj (eV 0) (e2 jq (eV 1) (eA zas (aC (eV 0) aN)))) (e2 zo3 (eK (.int 10)) (eK (.int 30)))) (e2 ye (e2 zbr (eV 1) (eA zas (aC (eV 0) aN))) (eK (.int 104729))))) j8) (qx (e2 jq (e2 ye (e2 jq (e2 zz (e2 ye (eV 2) (eK (.int 48271))) (e2 ye (eV 1) (eK (.int 69621)))) (eK (.int 2147483647))) (e2 zz (e2 jq (eV 2) (eK (.int 65521))) (eK (.int 3)))) (eK (.int 999999937))))))
def qb:G:=zv 3 2 zh9
def zg9:C :=
 (zt (j9 "Shelf" "held" (eV 0) (eV 1)) (yk (yw "Shelf" "done" (eV 0)) (eV 2)))
def je:G:=zv 3 3 zg9
def zha:C :=
 (xk (qc "Shelf" "hold" je (eV 0) (aC (eV 1) (aC (kf (aC (eK (.str (Str.ofString "back"))) (aC (zk jk (aC (eV 1) aN)) aN))) aN))))
def zaw:G:=zv 2 2 zha
def zfw:C :=
 (sIf (zhi (bE (zb3 zco zdb (eK (.int 0)) (eV 0) (eV 1)))) zbp j8)
def jl:G:=zv 2 2 zfw
def za9:R :=
 (rIf (zhi (bE (zb3 zco zdb (eK (.int 0)) (eV 0) (eV 1)))) (zgj "NoPlace" (aC (eK (.str (Str.ofString "there is no such place"))) aN)) zoo)
def xl:GR:=zcg 2 2 za9
def zfz:C :=
 (zt (sIf (bE (e2 zd6 (eV 1) (eK .non))) (qx (eK .non)) j8) (zt (qo 2 (kf (aC (e2s qj (eV 1) (eK (.int 2))) (aC (e2s qj (eV 1) (eK (.int 3))) (aC (e2s qj (eV 1) (eK (.int 4))) aN))))) (qx (qc "Wood" "numbered" xf (eV 0) (aC (e2 zz (e2 zz (kf (aC (zuj (e2s qj (eV 1) (eK (.int 1)))) aN)) (eV 2)) (kf (aC (zk jk (aC (eV 1) aN)) (aC (zk jp (aC (eV 1) aN)) (aC (zk zdp (aC (eV 1) aN)) (aC (zk y9 (aC (eV 1) aN)) aN)))))) aN)))))
def q9:G:=zv 3 2 zfz
def zns:C :=
 (zt (sIf (zhi (bE (e2s qj (eV 1) (eK (.int 1))))) (qx (kf (aC (e2s qj (eV 1) (eK (.int 2))) (aC (e2s qj (eV 1) (eK (.int 3))) (aC (e2s qj (eV 1) (eK (.int 4))) aN))))) j8) (zt (qo 2 (qc "Wood" "turned" q9 (eV 0) (aC (e2s qj (eV 1) (eK (.int 4))) aN))) (zt (qo 3 (qc "Wood" "turned" q9 (eV 0) (aC (e2s qj (eV 1) (eK (.int 2))) aN))) (qx (kf (aC (eV 2) (aC (e2s qj (eV 1) (eK (.int 3))) (aC (eV 3) aN))))))))
def xo:G:=zv 4 2 zns
def zfv:C :=
 (zt (qo 4 (zk xo (aC (eV 0) (aC (eV 1) aN)))) (zt (sIf (bE (e2 zl4 (zk jp (aC (e2s qj (eV 4) (eK (.int 0))) aN)) (zk jp (aC (e2s qj (eV 4) (eK (.int 2))) aN)))) (qx (qc "Wood" "node" z8 (eV 0) (aC (e2s qj (eV 4) (eK (.int 0))) (aC (e2s qj (eV 4) (eK (.int 1))) (aC (qc "Wood" "node" z8 (eV 0) (aC (e2s qj (eV 4) (eK (.int 2))) (aC (eV 2) (aC (eV 3) aN)))) aN))))) j8) (zt (qo 5 (zk xo (aC (eV 0) (aC (e2s qj (eV 4) (eK (.int 2))) aN)))) (zt (qo 6 (qc "Wood" "node" z8 (eV 0) (aC (e2s qj (eV 4) (eK (.int 0))) (aC (e2s qj (eV 4) (eK (.int 1))) (aC (e2s qj (eV 5) (eK (.int 0))) aN))))) (zt (qo 7 (qc "Wood" "node" z8 (eV 0) (aC (e2s qj (eV 5) (eK (.int 2))) (aC (eV 2) (aC (eV 3) aN))))) (qx (qc "Wood" "node" z8 (eV 0) (aC (eV 6) (aC (e2s qj (eV 5) (eK (.int 1))) (aC (eV 7) aN))))))))))
def zab:G:=zv 8 4 zfv
def zee:C :=
 (zt (qo 4 (zk xo (aC (eV 0) (aC (eV 3) aN)))) (zt (sIf (bE (e2 zl4 (zk jp (aC (e2s qj (eV 4) (eK (.int 2))) aN)) (zk jp (aC (e2s qj (eV 4) (eK (.int 0))) aN)))) (qx (qc "Wood" "node" z8 (eV 0) (aC (qc "Wood" "node" z8 (eV 0) (aC (eV 1) (aC (eV 2) (aC (e2s qj (eV 4) (eK (.int 0))) aN)))) (aC (e2s qj (eV 4) (eK (.int 1))) (aC (e2s qj (eV 4) (eK (.int 2))) aN))))) j8) (zt (qo 5 (zk xo (aC (eV 0) (aC (e2s qj (eV 4) (eK (.int 0))) aN)))) (zt (qo 6 (qc "Wood" "node" z8 (eV 0) (aC (eV 1) (aC (eV 2) (aC (e2s qj (eV 5) (eK (.int 0))) aN))))) (zt (qo 7 (qc "Wood" "node" z8 (eV 0) (aC (e2s qj (eV 5) (eK (.int 2))) (aC (e2s qj (eV 4) (eK (.int 1))) (aC (e2s qj (eV 4) (eK (.int 2))) aN))))) (qx (qc "Wood" "node" z8 (eV 0) (aC (eV 6) (aC (e2s qj (eV 5) (eK (.int 1))) (aC (eV 7) aN))))))))))
def yl:G:=zv 8 4 zee
def zkk:C :=
 (zt (sIf (bE (zk xr (aC (eV 1) (aC (eV 3) aN)))) (qx (qc "Wood" "node" z8 (eV 0) (aC (eV 1) (aC (eV 2) (aC (eV 3) aN))))) j8) (zt (sIf (bE (e2 zfa (zk jp (aC (eV 1) aN)) (zk jp (aC (eV 3) aN)))) (qx (zk zab (aC (eV 0) (aC (eV 1) (aC (eV 2) (aC (eV 3) aN)))))) j8) (qx (zk yl (aC (eV 0) (aC (eV 1) (aC (eV 2) (aC (eV 3) aN))))))))
def jy:G:=zv 4 4 zkk
def zp0(self:G):C :=
 (zt (sIf (bE (zk xr (aC (eV 1) (aC (eV 3) aN)))) (qx (qc "Wood" "node" z8 (eV 0) (aC (eV 1) (aC (eV 2) (aC (eV 3) aN))))) j8) (zt (sIf (bE (e2 zfa (zk jp (aC (eV 1) aN)) (zk jp (aC (eV 3) aN)))) (zt (qo 4 (zk xo (aC (eV 0) (aC (eV 1) aN)))) (qx (zk jy (aC (eV 0) (aC (e2s qj (eV 4) (eK (.int 0))) (aC (e2s qj (eV 4) (eK (.int 1))) (aC (zk (self) (aC (eV 0) (aC (e2s qj (eV 4) (eK (.int 2))) (aC (eV 2) (aC (eV 3) aN))))) aN))))))) j8) (zt (qo 4 (zk xo (aC (eV 0) (aC (eV 3) aN)))) (qx (zk jy (aC (eV 0) (aC (zk (self) (aC (eV 0) (aC (eV 1) (aC (eV 2) (aC (e2s qj (eV 4) (eK (.int 0))) aN))))) (aC (e2s qj (eV 4) (eK (.int 1))) (aC (e2s qj (eV 4) (eK (.int 2))) aN)))))))))
def kq:Nat->G
 |0=>fun _ _=>none
 |k+1=>zv 5 4 (zp0 (kq k))
def zh7(self:G):C :=
 (zt (sIf (bE (e2 zak (eV 2) (eK (.int 0)))) (qx (kf (aC (eK .non) (aC (eV 1) aN)))) j8) (zt (sIf (bE (e2 zak (eV 2) (zk jk (aC (eV 1) aN)))) (qx (kf (aC (eV 1) (aC (eK .non) aN)))) j8) (zt (qo 3 (zk xo (aC (eV 0) (aC (eV 1) aN)))) (zt (qo 4 (zk jk (aC (e2s qj (eV 3) (eK (.int 0))) aN))) (zt (sIf (bE (e2 zco (eV 2) (eV 4))) (zt (qo 5 (zk (self) (aC (eV 0) (aC (e2s qj (eV 3) (eK (.int 0))) (aC (eV 2) aN))))) (qx (kf (aC (e2s qj (eV 5) (eK (.int 0))) (aC (zk (kq 40) (aC (eV 0) (aC (e2s qj (eV 5) (eK (.int 1))) (aC (e2s qj (eV 3) (eK (.int 1))) (aC (e2s qj (eV 3) (eK (.int 2))) aN))))) aN))))) j8) (zt (qo 5 (zk (self) (aC (eV 0) (aC (e2s qj (eV 3) (eK (.int 2))) (aC (e2 yd (e2 yd (eV 2) (eV 4)) (eK (.int 1))) aN))))) (qx (kf (aC (zk (kq 40) (aC (eV 0) (aC (e2s qj (eV 3) (eK (.int 0))) (aC (e2s qj (eV 3) (eK (.int 1))) (aC (e2s qj (eV 5) (eK (.int 0))) aN))))) (aC (e2s qj (eV 5) (eK (.int 1))) aN))))))))))
def x8:Nat->G
 |0=>fun _ _=>none
 |k+1=>zv 6 3 (zh7 (x8 k))
def z0j:C :=
 (zt (xk (zk jl (aC (eV 2) (aC (e2 zz (zk jk (aC (eV 1) aN)) (eK (.int 1))) aN)))) (qx (zk (x8 40) (aC (eV 0) (aC (eV 1) (aC (eV 2) aN))))))
def ztl:G:=zv 3 3 z0j
def zid:C :=
 (zt (qo 2 (zk ztl (aC (yw "Shelf" "wood" (eV 0)) (aC (yw "Shelf" "held" (eV 0)) (aC (eV 1) aN))))) (zt (qo 3 (zaf "Shelf" (znj 1 z5) (aC (yw "Shelf" "wood" (eV 0)) aN))) (zt (j9 "Shelf" "held" (eV 3) (e2s qj (eV 2) (eK (.int 1)))) (zt (xk (qc "Shelf" "hold" je (eV 0) (aC (e2s qj (eV 2) (eK (.int 0))) (aC (kf (aC (eK (.str (Str.ofString "cut"))) (aC (eV 1) aN))) aN)))) (qx (eV 3))))))
def zbj:G:=zv 4 2 zid
def zkj(self:G):C :=
 (zt (qo 3 (zk zjf (aC (eV 0) (aC (eV 1) aN)))) (zt (qo 4 (zk jk (aC (e2s qj (eV 3) (eK (.int 0))) aN))) (zt (sIf (bE (e2 zdb (eV 2) (eV 4))) (qx (zk (self) (aC (e2s qj (eV 3) (eK (.int 0))) (aC (e2s qj (eV 3) (eK (.int 3))) (aC (eV 2) aN))))) j8) (zt (sIf (bE (e2 zfa (eV 2) (eV 4))) (qx (zk (self) (aC (e2s qj (eV 3) (eK (.int 2))) (aC (e2s qj (eV 3) (eK (.int 3))) (aC (e2 yd (e2 yd (eV 2) (eV 4)) (eK (.int 1))) aN))))) j8) (qx (e2s qj (eV 3) (eK (.int 1))))))))
def xq:Nat->G
 |0=>fun _ _=>none
 |k+1=>zv 5 3 (zkj (xq k))
def z1t:C :=
 (zt (xk (zk jl (aC (eV 1) (aC (zk jk (aC (eV 0) aN)) aN)))) (qx (zk (xq 40) (aC (eV 0) (aC (eK (.bl false)) (aC (eV 1) aN))))))
def zyi:G:=zv 2 2 z1t
def za3(self:G):C :=
 (zt (sIf (bE (e2 zd6 (eV 1) (eK .non))) (qx (eV 2)) j8) (zt (sIf (bE (e2 zd6 (eV 2) (eK .non))) (qx (eV 1)) j8) (qx (zk (kq 40) (aC (eV 0) (aC (eV 1) (aC (zk (xq 40) (aC (eV 2) (aC (eK (.bl false)) (aC (eK (.int 0)) aN)))) (aC (zk (self) (aC (eV 0) (aC (eV 2) (aC (eK (.int 0)) aN)))) aN))))))))
def jx(self:G):G:=zv 3 3 (za3 self)
def zd0(self aux:G):C :=
 (zt (qo 3 (zk xo (aC (eV 0) (aC (eV 1) aN)))) (zt (qo 4 (zk jk (aC (e2s qj (eV 3) (eK (.int 0))) aN))) (zt (sIf (bE (e2 zdb (eV 2) (eV 4))) (qx (zk jy (aC (eV 0) (aC (zk (self) (aC (eV 0) (aC (e2s qj (eV 3) (eK (.int 0))) (aC (eV 2) aN)))) (aC (e2s qj (eV 3) (eK (.int 1))) (aC (e2s qj (eV 3) (eK (.int 2))) aN)))))) j8) (zt (sIf (bE (e2 zfa (eV 2) (eV 4))) (qx (zk jy (aC (eV 0) (aC (e2s qj (eV 3) (eK (.int 0))) (aC (e2s qj (eV 3) (eK (.int 1))) (aC (zk (self) (aC (eV 0) (aC (e2s qj (eV 3) (eK (.int 2))) (aC (e2 yd (e2 yd (eV 2) (eV 4)) (eK (.int 1))) aN)))) aN)))))) j8) (qx (zk (aux) (aC (eV 0) (aC (e2s qj (eV 3) (eK (.int 0))) (aC (e2s qj (eV 3) (eK (.int 2))) aN)))))))))
def jw:Nat->G
 |0=>fun _ _=>none
 |k+1=>zv 5 3 (zd0 (jw k) (jx (jw k)))
def xx:G:=jx (jw 40)
def z0i:C :=
 (zt (xk (zk jl (aC (eV 2) (aC (zk jk (aC (eV 1) aN)) aN)))) (qx (zk (jw 40) (aC (eV 0) (aC (eV 1) (aC (eV 2) aN))))))
def ztk:G:=zv 3 3 z0i
def zic:C :=
 (zt (qo 2 (zk zyi (aC (yw "Shelf" "held" (eV 0)) (aC (eV 1) aN)))) (zt (xk (qc "Shelf" "hold" je (eV 0) (aC (zk ztk (aC (yw "Shelf" "wood" (eV 0)) (aC (yw "Shelf" "held" (eV 0)) (aC (eV 1) aN)))) (aC (kf (aC (eK (.str (Str.ofString "out"))) (aC (eV 1) aN))) aN)))) (qx (eV 2))))
def zbi:G:=zv 3 2 zic
def zt5(self:G):C :=
 (zt (qo 4 (zk xo (aC (eV 0) (aC (eV 1) aN)))) (zt (qo 5 (zk jk (aC (e2s qj (eV 4) (eK (.int 0))) aN))) (zt (sIf (bE (e2 zdb (eV 2) (eV 5))) (qx (qc "Wood" "node" z8 (eV 0) (aC (zk (self) (aC (eV 0) (aC (e2s qj (eV 4) (eK (.int 0))) (aC (eV 2) (aC (eV 3) aN))))) (aC (e2s qj (eV 4) (eK (.int 1))) (aC (e2s qj (eV 4) (eK (.int 2))) aN))))) j8) (zt (sIf (bE (e2 zfa (eV 2) (eV 5))) (qx (qc "Wood" "node" z8 (eV 0) (aC (e2s qj (eV 4) (eK (.int 0))) (aC (e2s qj (eV 4) (eK (.int 1))) (aC (zk (self) (aC (eV 0) (aC (e2s qj (eV 4) (eK (.int 2))) (aC (e2 yd (e2 yd (eV 2) (eV 5)) (eK (.int 1))) (aC (eV 3) aN))))) aN))))) j8) (qx (qc "Wood" "node" z8 (eV 0) (aC (e2s qj (eV 4) (eK (.int 0))) (aC (eV 3) (aC (e2s qj (eV 4) (eK (.int 2))) aN)))))))))
def zfi:Nat->G
 |0=>fun _ _=>none
 |k+1=>zv 6 4 (zt5 (zfi k))
def znr:C :=
 (zt (xk (zk jl (aC (eV 2) (aC (zk jk (aC (eV 1) aN)) aN)))) (qx (zk (zfi 40) (aC (eV 0) (aC (eV 1) (aC (eV 2) (aC (eV 3) aN)))))))
def zdo:G:=zv 4 4 znr
def zg6:C :=
 (xk (qc "Shelf" "hold" je (eV 0) (aC (zk zdo (aC (yw "Shelf" "wood" (eV 0)) (aC (yw "Shelf" "held" (eV 0)) (aC (eV 1) (aC (eV 2) aN))))) (aC (kf (aC (eK (.str (Str.ofString "swap"))) (aC (eV 1) aN))) aN))))
def zav:G:=zv 3 3 zg6
def zd1:C :=
 (sIf (zhi (bE (zfo zco zco zco (eK (.int 0)) (eV 1) (eV 2) (zk jk (aC (eV 0) aN))))) zbp j8)
def ky:G:=zv 3 3 zd1
def zfu:C :=
 (zt (xk (zk ky (aC (eV 1) (aC (eV 2) (aC (eV 3) aN))))) (zt (qo 4 (zk (x8 40) (aC (eV 0) (aC (eV 1) (aC (eV 3) aN))))) (zt (qo 5 (zk (x8 40) (aC (eV 0) (aC (e2s qj (eV 4) (eK (.int 0))) (aC (eV 2) aN))))) (zt (qo 6 (zk xx (aC (eV 0) (aC (e2s qj (eV 5) (eK (.int 0))) (aC (qc "Wood" "turned" q9 (eV 0) (aC (e2s qj (eV 5) (eK (.int 1))) aN)) aN))))) (qx (zk xx (aC (eV 0) (aC (eV 6) (aC (e2s qj (eV 4) (eK (.int 1))) aN)))))))))
def y8:G:=zv 7 4 zfu
def zeh:C :=
 (xk (qc "Shelf" "hold" je (eV 0) (aC (zk y8 (aC (yw "Shelf" "wood" (eV 0)) (aC (yw "Shelf" "held" (eV 0)) (aC (eV 1) (aC (eV 2) aN))))) (aC (kf (aC (eK (.str (Str.ofString "turned"))) (aC (eV 1) (aC (eV 2) aN)))) aN))))
def yn:G:=zv 3 3 zeh
def zxu:C :=
 (zt (xk (zk xu (aC (e2 zz (zk jk (aC (eV 1) aN)) (zk jk (aC (eV 2) aN))) aN))) (qx (zk xx (aC (eV 0) (aC (eV 1) (aC (eV 2) aN))))))
def zmx:G:=zv 3 3 zxu
def zg8:C :=
 (zt (qo 2 (qc "Shelf" "make" jc (eV 1) aN)) (xk (qc "Shelf" "hold" je (eV 0) (aC (zk zmx (aC (yw "Shelf" "wood" (eV 0)) (aC (yw "Shelf" "held" (eV 0)) (aC (eV 2) aN)))) (aC (kf (aC (eK (.str (Str.ofString "laid"))) (aC (zk jk (aC (eV 2) aN)) aN))) aN)))))
def yg:G:=zv 3 2 zg8
def zh8:C :=
 (zt (qo 5 (zev [4] (e2 jq (eV 3) (eK (.int 4))) (e2 zz (eV 1) (eV 0)))) (zt (sIf (zkn (bE (e2 zak (e2 jq (e2 zbr (eV 3) (eK (.int 4))) (eK (.int 4))) (eK (.int 0)))) (bE (e2 zdb (eA zas (aC (eV 2) aN)) (eK (.int 60))))) (zt (xk (qc "Shelf" "laid" yg (eV 1) (aC (eV 1) aN))) (qx (kf (aC (e2 zz (eV 2) (eV 2)) (aC (kf (aC (eK (.str (Str.ofString "laid"))) (aC (eA zas (aC (eV 2) aN)) aN))) aN))))) j8) (zt (xk (qc "Shelf" "laid" yg (eV 1) (aC (zaf "Shelf" z5 (aC (eV 0) (aC (eV 5) aN))) aN))) (qx (kf (aC (e2 zz (eV 2) (eV 5)) (aC (kf (aC (eK (.str (Str.ofString "laid"))) (aC (eA zas (aC (eV 5) aN)) aN))) aN)))))))
def zad:G:=zv 6 5 zh8
def zpz(self:G):C :=
 (zt (sIf (bE (e2 zd6 (eV 1) (eK .non))) (qx (qc "Wood" "node" z8 (eV 0) (aC (eK .non) (aC (eV 3) (aC (eK .non) aN))))) j8) (zt (qo 4 (zk xo (aC (eV 0) (aC (eV 1) aN)))) (zt (qo 5 (zk jk (aC (e2s qj (eV 4) (eK (.int 0))) aN))) (zt (sIf (bE (e2 zco (eV 2) (eV 5))) (qx (zk jy (aC (eV 0) (aC (zk (self) (aC (eV 0) (aC (e2s qj (eV 4) (eK (.int 0))) (aC (eV 2) (aC (eV 3) aN))))) (aC (e2s qj (eV 4) (eK (.int 1))) (aC (e2s qj (eV 4) (eK (.int 2))) aN)))))) j8) (qx (zk jy (aC (eV 0) (aC (e2s qj (eV 4) (eK (.int 0))) (aC (e2s qj (eV 4) (eK (.int 1))) (aC (zk (self) (aC (eV 0) (aC (e2s qj (eV 4) (eK (.int 2))) (aC (e2 yd (e2 yd (eV 2) (eV 5)) (eK (.int 1))) (aC (eV 3) aN))))) aN))))))))))
def zcw:Nat->G
 |0=>fun _ _=>none
 |k+1=>zv 6 4 (zpz (zcw k))
def z0h:C :=
 (zt (xk (zk jl (aC (eV 2) (aC (e2 zz (zk jk (aC (eV 1) aN)) (eK (.int 1))) aN)))) (zt (xk (zk xu (aC (e2 zz (zk jk (aC (eV 1) aN)) (eK (.int 1))) aN))) (qx (zk (zcw 40) (aC (eV 0) (aC (eV 1) (aC (eV 2) (aC (eV 3) aN))))))))
def zmw:G:=zv 4 4 z0h
def zqc:R :=
 (zls xl (aC (eV 2) (aC (e2 zz (zk jk (aC (eV 1) aN)) (eK (.int 1))) aN)))
def r_put:GR:=zcg 4 4 zqc
def zib:C :=
 (xk (qc "Shelf" "hold" je (eV 0) (aC (zk zmw (aC (yw "Shelf" "wood" (eV 0)) (aC (yw "Shelf" "held" (eV 0)) (aC (eV 1) (aC (eV 2) aN))))) (aC (kf (aC (eK (.str (Str.ofString "put"))) (aC (eV 1) aN))) aN))))
def k9:G:=zv 3 3 zib
def zgh:R :=
 (zi1 "Shelf" "hold" (eV 0) (zls r_put (aC (yw "Shelf" "wood" (eV 0)) (aC (yw "Shelf" "held" (eV 0)) (aC (eV 1) (aC (eV 2) aN))))))
def kr:GR:=zcg 3 3 zgh
def zfy:C :=
 (zt (qo 4 (e2 jq (eV 2) (e2 zz (eA zas (aC (eV 1) aN)) (eK (.int 1))))) (zt (xk (qc "Shelf" "put" k9 (eV 0) (aC (eV 4) (aC (eV 3) aN)))) (qx (kf (aC (e2 zz (e2 zz (eSl (eV 1) pN (pE (eV 4))) (zd7 (aC (eV 3) aN))) (eSl (eV 1) (pE (eV 4)) pN)) (aC (kf (aC (eK (.str (Str.ofString "put"))) (aC (eV 4) aN))) aN))))))
def zac:G:=zv 5 4 zfy
def zbk:C :=
 (zt (qo 6 (e2 jq (eV 4) (eK (.int 9)))) (zt (qo 4 (e2 zbr (eV 4) (eK (.int 9)))) (zt (sIf (zkn (bE (e2 zak (eV 6) (eK (.int 1)))) (bE (e2 ze9 (eV 2) (zd7 aN)))) (zt (qo 7 (e2 jq (eV 4) (eA zas (aC (eV 2) aN)))) (zt (xk (qc "Shelf" "out" zbi (eV 1) (aC (eV 7) aN))) (qx (kf (aC (e2 zz (eSl (eV 2) pN (pE (eV 7))) (eSl (eV 2) (pE (e2 zz (eV 7) (eK (.int 1)))) pN)) (aC (kf (aC (eK (.str (Str.ofString "out"))) (aC (eV 7) aN))) aN)))))) j8) (zt (sIf (zkn (bE (e2 zak (eV 6) (eK (.int 2)))) (bE (e2 ze9 (eV 2) (zd7 aN)))) (zt (qo 7 (e2 jq (eV 4) (eA zas (aC (eV 2) aN)))) (zt (xk (qc "Shelf" "swap" zav (eV 1) (aC (eV 7) (aC (eV 5) aN)))) (qx (kf (aC (e2 zz (e2 zz (eSl (eV 2) pN (pE (eV 7))) (zd7 (aC (eV 5) aN))) (eSl (eV 2) (pE (e2 zz (eV 7) (eK (.int 1)))) pN)) (aC (kf (aC (eK (.str (Str.ofString "swap"))) (aC (eV 7) aN))) aN)))))) j8) (zt (sIf (bE (e2 zue (eV 6) (kf (aC (eK (.int 3)) (aC (eK (.int 4)) aN))))) (zt (qo 8 (e2 jq (eV 4) (e2 zz (eA zas (aC (eV 2) aN)) (eK (.int 1))))) (zt (qo 9 (e2 zz (eV 8) (e2 jq (e2 zbr (eV 4) (eK (.int 64))) (e2 yd (e2 zz (eA zas (aC (eV 2) aN)) (eK (.int 1))) (eV 8))))) (zt (xk (qc "Shelf" "turned" yn (eV 1) (aC (eV 8) (aC (eV 9) aN)))) (qx (kf (aC (e2 zz (e2 zz (eSl (eV 2) pN (pE (eV 8))) (zb2 (eSl (eV 2) (pE (eV 8)) (pE (eV 9))))) (eSl (eV 2) (pE (eV 9)) pN)) (aC (kf (aC (eK (.str (Str.ofString "turned"))) (aC (eV 8) (aC (eV 9) aN)))) aN))))))) j8) (zt (sIf (bE (e2 zak (eV 6) (eK (.int 5)))) (qx (zk zad (aC (eV 0) (aC (eV 1) (aC (eV 2) (aC (eV 4) (aC (eV 5) aN))))))) j8) (zt (sIf (bE (e2 zak (eV 6) (eK (.int 6)))) (zt (qo 7 (e2 yd (eA zas (aC (eV 2) aN)) (e2 zbr (e2 jq (eV 4) (e2 zz (eA zas (aC (eV 2) aN)) (eK (.int 1)))) (eK (.int 2))))) (zt (xk (qc "Shelf" "cut" zbj (eV 1) (aC (eV 7) aN))) (qx (kf (aC (eSl (eV 2) pN (pE (eV 7))) (aC (kf (aC (eK (.str (Str.ofString "cut"))) (aC (eV 7) aN))) aN)))))) j8) (zt (sIf (zkn (bE (e2 zak (eV 6) (eK (.int 7)))) (bE (e2 zak (e2 jq (eV 4) (eK (.int 2))) (eK (.int 0))))) (zt (zud [10,11] (e2s qj (eV 3) (e2 jq (e2 zbr (eV 4) (eK (.int 2))) (eA zas (aC (eV 3) aN))))) (zt (xk (qc "Shelf" "back" zaw (eV 1) (aC (eV 10) aN))) (qx (kf (aC (yu (aC (eV 11) aN)) (aC (kf (aC (eK (.str (Str.ofString "back"))) (aC (eA zas (aC (eV 11) aN)) aN))) aN)))))) j8) (qx (zk zac (aC (eV 1) (aC (eV 2) (aC (eV 4) (aC (eV 5) aN))))))))))))))
def jf:G:=frz2 (zv 12 6 zbk)
def zb5:C :=
 (qx (eSl (qc "Shelf" "deeds" x4 (yw "Strict" "shelf" (eV 0)) aN) (pE (yw "Strict" "met" (eV 0))) pN))
def jm:G:=zv 1 1 zb5
def zg5:C :=
 (zt (qo 1 (qc "Strict" "new_deeds" jm (eV 0) aN)) (zt (sIf (bE (e2 zfa (eA zas (aC (eV 1) aN)) (eK (.int 0)))) zbp j8) (qx (yw "Strict" "stood" (eV 0)))))
def xg:G:=zv 2 1 zg5
def ze6:R :=
 (zvj (qo 1 (qc "Strict" "new_deeds" jm (eV 0) aN)) (rIf (bE (e2 zfa (eA zas (aC (eV 1) aN)) (eK (.int 0)))) (ze7 "Changed" (Str.ofString "the shelf has changed: ") "deed" (aC (e2s qj (eV 1) (eK (.int 0))) aN)) zoo))
def jt:GR:=zcg 2 1 ze6
def zf1:C :=
 (zt (qo 1 (qc "Strict" "row" xg (eV 0) aN)) (qx (e2 zdb (yw "Strict" "mark" (eV 0)) (zk jk (aC (eV 1) aN)))))
def xz:G:=zv 2 1 zf1
def zec:R :=
 (zc8 "Strict" "row" jt (eV 0) aN)
def xm:GR:=zcg 2 1 zec
def zf0:C :=
 (zt (qo 1 (qc "Strict" "row" xg (eV 0) aN)) (zt (sIf (bE (e2 zl4 (yw "Strict" "mark" (eV 0)) (zk jk (aC (eV 1) aN)))) zbp j8) (zt (qo 2 (zk zyi (aC (eV 1) (aC (yw "Strict" "mark" (eV 0)) aN)))) (zt (j9 "Strict" "mark" (eV 0) (e2 zz (yw "Strict" "mark" (eV 0)) (eK (.int 1)))) (qx (eV 2))))))
def xn:G:=zv 3 1 zf0
def zeb:R :=
 (rOr (zc8 "Strict" "row" jt (eV 0) aN) (zvj (qo 1 (qc "Strict" "row" xg (eV 0) aN)) (rIf (bE (e2 zl4 (yw "Strict" "mark" (eV 0)) (zk jk (aC (eV 1) aN)))) (zgj "NoMore" (aC (eK (.str (Str.ofString "there is none more"))) aN)) zoo)))
def ju:GR:=zcg 3 1 zeb
def zg4:C :=
 (zt (qo 2 (eK .non)) (zt (zea (sIf (bE (eV 1)) (qo 2 (qc "Strict" "step" xn (eV 0) aN)) (qo 2 (qc "Strict" "more" xz (eV 0) aN))) (rIf (bE (eV 1)) (zc8 "Strict" "step" ju (eV 0) aN) (zc8 "Strict" "more" xm (eV 0) aN)) (hAs (zex ct_Changed) (some 3) (zt (qo 4 (eA (zkc up) (aC (eV 3) (aC (kf (aC (eK (.fn "NoBalance")) (aC (eK (.fn "NoMore")) (aC (eK (.fn "NoName")) (aC (eK (.fn "NoNumber")) (aC (eK (.fn "NoPlace")) (aC (eK (.fn "NoRow")) (aC (eK (.fn "NoSum")) (aC (eK (.fn "NoThing")) (aC (eK (.fn "NoWay")) (aC (eK (.fn "TooMany")) aN))))))))))) aN)))) (qo 2 (zd7 (aC (zkh "Changed" "deed" (eV 3)) (aC (eA ztf (aC (zkh "Changed" "deed" (eV 3)) (aC (eK (.ty "tuple")) aN))) (aC (zuk (eA (zkc up) (aC (eV 3) (aC (eK (.fn "ShelfError")) aN))) (eA (zkc up) (aC (eV 3) (aC (eK (.ty "ValueError")) aN)))) (aC (eV 4) aN))))))) (zex no_Changed) (hAs (zex ct_NoMore) (some 3) (zt (qo 4 (eA (zkc up) (aC (eV 3) (aC (kf (aC (eK (.fn "Changed")) (aC (eK (.fn "NoBalance")) (aC (eK (.fn "NoName")) (aC (eK (.fn "NoNumber")) (aC (eK (.fn "NoPlace")) (aC (eK (.fn "NoRow")) (aC (eK (.fn "NoSum")) (aC (eK (.fn "NoThing")) (aC (eK (.fn "NoWay")) (aC (eK (.fn "TooMany")) aN))))))))))) aN)))) (qo 2 (zd7 (aC (eK (.str (Str.ofString "none"))) (aC (zuk (eA (zkc up) (aC (eV 3) (aC (eK (.fn "ShelfError")) aN))) (eA (zkc up) (aC (eV 3) (aC (eK (.ty "ValueError")) aN)))) (aC (eV 4) aN)))))) (zex no_NoMore) hNo))) (qx (eV 2))))
def qh:G:=frz (zv 5 2 zg4)
def zeg:C :=
 (zt (qo 2 (eK (.bl false))) (zt (zea (xk (qc "Shelf" "put" k9 (eV 0) (aC (eV 1) (aC (eK (.int 1)) aN)))) (zc8 "Shelf" "put" kr (eV 0) (aC (eV 1) (aC (eK (.int 1)) aN))) (hAs (zex ct_NoPlace) none (qo 2 (eK (.bl true))) (zex no_NoPlace) hNo)) (qx (eV 2))))
def kd:G:=zv 3 2 zeg
def zfx:C :=
 (zt (zjx 3 (eV 2) (zt (qo 4 (e2 zdb (eV 3) (eA zas (aC (eV 1) aN)))) (zt (qo 5 (zk qh (aC (eV 0) (aC (eK (.bl false)) aN)))) (zt (sIf (bOr (zhi (bE (eA ztf (aC (eV 5) (aC (eK (.ty "bool")) aN))))) (bE (e2 ze9 (eV 5) (eV 4)))) (qx (eK (.bl false))) j8) (zt (qo 6 (zd7 (aC (eK (.str (Str.ofString "none"))) (aC (eK (.bl true)) (aC (eK (.bl false)) aN))))) (zt (sIf (bE (eV 4)) (qo 6 (e2s qj (eV 1) (eV 3))) j8) (sIf (bE (e2 ze9 (zk qh (aC (eV 0) (aC (eK (.bl true)) aN))) (eV 6))) (qx (eK (.bl false))) j8))))))) (qx (eK (.bl true))))
def xy:G:=zv 7 3 zfx
end
end Pg
namespace Pg
open PySem L2 F Mt
class Kd (k:Nat):Prop where
 ne:k=0
variable {k:Nat} [Kd k] {S:Sto}
def fnm(_:Nat):Str:=""
def kg(k:Nat):D:=if k=0 then .non else .fn (fnm k)
theorem zxz{x y:D}{n m:Nat}(hx:Th k n x)(hy:Th k m y)(hn:n+m<=4000):∃g,ft (fnm k)=some g/\∀S,g [x,y] S=some (ad k x y,S):=by have h4:=Kd.ne (k:=k);subst h4;exact hx.elim
end Pg
namespace Pg
open PySem L2 F Mt
variable {k:Nat} [Kd k] {d l r t:D}{ts lt rt:List D}{h lh rh:Nat}{S S1:Sto}{ev e:Ev}
theorem zqb(a b c d e f g h i:D)(S:Sto):jk [.tup [a,b,c,d,e,f,g,h,i]] S=some (f,S):=rfl
theorem zje(a b c d e f g h i:D)(S:Sto):jp [.tup [a,b,c,d,e,f,g,h,i]] S=some (g,S):=rfl
theorem zkx(a b c d e f g h i:D)(S:Sto):y9 [.tup [a,b,c,d,e,f,g,h,i]] S=some (h,S):=rfl
theorem zq8(a b c d e f g h i:D)(S:Sto):zdp [.tup [a,b,c,d,e,f,g,h,i]] S=some (i,S):=rfl
theorem ja(m:Mk k d ts h)(S:Sto):jk [d] S=some (.int ts.length,S):=by
 cases m with
 |non=>rfl
 |node _ _ _ _ _=>rw[mkD,zqb,kv];simp;omega
theorem ql(m:Mk k d ts h)(S:Sto):jp [d] S=some (.int h,S):=by
 cases m with
 |non=>rfl
 |node _ _ _ _ _=>rw[mkD,zje]
theorem zim(m:Mk k d ts h)(S:Sto):y9 [d] S=some (zb7 k ts,S):=by
 cases m with
 |non=>rfl
 |node _ _ _ _ _=>rw[mkD,zkx]
theorem znx(m:Mk k d ts h)(S:Sto):zdp [d] S=some (zb7 k ts.reverse,S):=by
 cases m with
 |non=>rfl
 |node _ _ _ _ _=>rw[mkD,zq8]
theorem ze3(ml:Mk k l lt lh)(mr:Mk k r rt rh)(S:Sto):yf [l,r] S=some (.int (lt.length+1+rt.length:Nat),S):=by simp[yf,zv,zcl,qx,e2,zk,aC,aN,eV,eK,zz,ja ml,ja mr]
theorem zdm(ml:Mk k l lt lh)(mr:Mk k r rt rh)(S:Sto):ka [l,r] S=some (.int (max lh rh+1:Nat),S):=by simp[ka,zv,zbb,qx,e2,zk,aC,aN,eV,eK,zz,eA,zwk,ql ml,ql mr];split<;>omega
theorem y7(ml:Mk k l lt lh)(mr:Mk k r rt rh)(S:Sto):xr [l,r] S=some (.bl (decide (lh<=rh+1/\rh<=lh+1)),S):=by simp[xr,zv,zcm,qx,e2,zk,aC,aN,eV,eK,yd,zco,F.opI,opIB,eA,zx0,ql ml,ql mr];rw[Bool.eq_iff_iff];simp;split<;>omega
theorem zra{a b:E}{x y:D}{n m:Nat}(hk:k≠0)(h0:ev[0]? = some (some (kg k)))(ha:a ev S=some (x,S))(hb:b ev S=some (y,S))(hx:Th k n x)(hy:Th k m y)(hn:n+m<=4000):zba ft (eV 0) (aC a (aC b aN)) ev S=some (ad k x y,S):=by
 obtain⟨g,hg,hc⟩:=zxz hx hy hn;have hav:kg k=.fn (fnm k):=by simp[kg,hk]
 unfold zba;rw[e_v h0];simp only[Option.bind_some,hav,hg,a_c ha (a_c hb a_n),hc]
theorem zjp{gs:G}{w:E->E}{p q:Nat}{x y:D}{xt yt:List D}(hk:k≠0)(ht:Thing k t)(hn:xt.length+1+yt.length<=2000)(hx:∀z∈xt,Thing k z)(hy:∀z∈yt,Thing k z)(ex:x=.non/\xt=[]\/xt≠[]/\∃xs,x=.tup xs)(ey:y=.non/\yt=[]\/yt≠[]/\∃ys,y=.tup ys)
   (ev0:Ev) (S:Sto) (e0:ev0[0]? = some (some (kg k))) (et:ev0[2]? = some (some t)) (ep:ev0[p]? = some (some x)) (eq:ev0[q]? = some (some y)) (hl:ev0.length=5) (hp:p<4) (hq:q<4) (hx':∀ev:Ev,ev[p]? = some (some x)->w (eV p) ev S=some (zb7 k xt,S)) (hy':∀ev:Ev,ev[q]? = some (some y)->w (eV q) ev S=some (zb7 k yt,S)) :
   zt (qo 4 (eV 2)) (zt (sIf (bE (e2 km (eV p) (eK .non))) (qo 4 (zba ft (eV 0) (aC (w (eV p)) (aC (eV 4) aN)))) j8) (zt (sIf (bE (e2 km (eV q) (eK .non))) (qo 4 (zba ft (eV 0) (aC (eV 4) (aC (w (eV q)) aN)))) j8) (qx (eV 4)))) ev0 S=some (.rt (zb7 k (xt++t::yt)),S):=by
 have tt:=ht.th hk;have g4:∀(d:D) (i:Nat),i<4->(ev0.set 4 (some d))[i]? = ev0[i]?:=fun d i hi=>z23 (by omega);have s4:∀(ev:Ev) (d:D),ev.length=5->(ev.set 4 (some d))[4]? = some (some d):=fun ev d h=>z2r (by omega);have ss:∀(d e:D),(ev0.set 4 (some d)).set 4 (some e)=ev0.set 4 (some e):=fun d e=>by simp
 have step2:∀(acc:D) (n:Nat),Th k n acc->n+yt.length<=2000->∀{res:D},(yt=[]->res=acc)->(yt≠[]->res=ad k acc (zb7 k yt)) ->
     zt (sIf (bE (e2 km (eV q) (eK .non))) (qo 4 (zba ft (eV 0) (aC (eV 4) (aC (w (eV q)) aN)))) j8) (qx (eV 4)) (ev0.set 4 (some acc)) S=some (.rt res,S):=by
   intro acc n ha hb res r1 r2;rcases ey with⟨e1,e2'⟩ | ⟨e1,ys,e2'⟩
   · rw[r1 e2'];exact ze (zm (q8 (e_2 (e_v (by rw[g4 _ _ hq,eq])) e_k (by rw[e1];rfl)))) (zq (e_v (s4 _ _ hl)))
   · rw[r2 e1];refine ze (qd (q8 (e_2 (e_v (by rw[g4 _ _ hq,eq])) e_k (by rw[e2'];rfl))) (zj (zra hk (by rw[g4 _ _ (by decide),e0]) (e_v (s4 _ _ hl)) (hy' _ (by rw[g4 _ _ hq,eq])) ha (zio hk e1 hy) (by omega)))) (zq (e_v ?_));rw[ss];exact s4 _ _ hl
 refine ze (zj (e_v et)) ?_;rcases ex with⟨e1,e2'⟩ | ⟨e1,xs,e2'⟩
 · subst e2';refine ze (zm (q8 (e_2 (e_v (by rw[g4 _ _ hp,ep])) e_k (by rw[e1];rfl)))) (step2 t 1 tt (by simp at hn;omega) (fun z=>by rw[z,List.nil_append,zbm hk]) fun z=>?_);rw[List.nil_append,show t::yt=[t]++yt from rfl,yz hk (by simp) z,zbm hk]
 · have t1:=zio hk e1 hx;have e3:zb7 k (xt++[t])=ad k (zb7 k xt) t:=by rw[yz hk e1 (by simp),zbm hk]
   refine ze (qd (q8 (e_2 (e_v (by rw[g4 _ _ hp,ep])) e_k (by rw[e2'];rfl))) (zj (zra hk (by rw[g4 _ _ (by decide),e0]) (hx' _ (by rw[g4 _ _ hp,ep])) (e_v (s4 _ _ hl)) t1 tt (by omega)))) ?_;rw[ss];exact step2 _ _ (t1.ad tt) (by omega) (fun z=>by rw[z,e3]) fun z=>by rw[show xt++t::yt=(xt++[t])++yt by simp,yz hk (by simp) z,e3]
theorem zi6{xs:List D}(m:Mk k d ts h):d=.non/\ts=[]\/ts≠[]/\∃xs,d=.tup xs:=by
 cases m with
 |non=>exact .inl ⟨rfl,rfl⟩
 |node _ _ _ _ _=>exact .inr ⟨by intro z;have:=z30 List.length z;rw[kv]at this;simp at this,_,rfl⟩
theorem zl5(hk:k≠0)(ml:Mk k l lt lh)(mr:Mk k r rt rh)(ht:Thing k t)(hn:lt.length+1+rt.length<=2000)(S:Sto) :
   zau [kg k,l,t,r] S=some (zb7 k (lt++t::rt),S) :=
 jz rfl (zjp (w:=fun x=>zk y9 (aC x aN)) (p:=1) (q:=3) (gs:=y9) hk ht hn ml.things mr.things (zi6 (xs:=[]) ml) (zi6 (xs:=[]) mr) _ S rfl rfl rfl rfl rfl (by decide) (by decide) (fun ev h=>zg (a_c (e_v h) a_n) (zim ml S)) (fun ev h=>zg (a_c (e_v h) a_n) (zim mr S)))
theorem zif(hk:k≠0)(ml:Mk k l lt lh)(mr:Mk k r rt rh)(ht:Thing k t)(hn:lt.length+1+rt.length<=2000)(S:Sto) :
   ym [kg k,l,t,r] S=some (zb7 k (lt++t::rt).reverse,S):=by
 have rev:(lt++t::rt).reverse=rt.reverse++t::lt.reverse:=by simp
 have no:∀{d:D}{ts:List D},(d=.non/\ts=[]\/ts≠[]/\∃xs,d=.tup xs)->(d=.non/\ts.reverse=[]\/ts.reverse≠[]/\∃xs,d=.tup xs):=fun h=>by simpa using h
 rw[rev];exact jz rfl (zjp (w:=fun x=>zk zdp (aC x aN)) (p:=3) (q:=1) (gs:=y9) hk ht (by simp;omega) (fun z hz=>mr.things z (z4z.mp hz)) (fun z hz=>ml.things z (z4z.mp hz)) (no (zi6 (xs:=[]) mr)) (no (zi6 (xs:=[]) ml)) _ S rfl rfl rfl rfl rfl (by decide) (by decide) (fun ev h=>zg (a_c (e_v h) a_n) (znx mr S)) (fun ev h=>zg (a_c (e_v h) a_n) (znx ml S)))
theorem zez(ml:Mk k l lt lh)(mr:Mk k r rt rh)(ht:Thing k t)(hn:lt.length+1+rt.length<=2000)(S:Sto) :
   kj [kg k,l,t,r] S=some (.tup [zb7 k (lt++t::rt),zb7 k (lt++t::rt).reverse],S):=by
 by_cases hk:k=0
 · subst hk;simp[kj,zv,za2,kg,zt,sIf,qx,bE,e2,eV,eK,zd6,zmp,kf,eA,aC,aN,zp7,zgb]
 · have o:=zl5 hk ml mr ht hn;have b:=zif hk ml mr ht hn;have hav:kg k=.fn (fnm k):=by simp[kg,hk]
   rw[hav]at o b ⊢;simp only[kj,zv,za2];simp[zt,sIf,qx,j8,bE,e2,eV,eK,zd6,zmp,kf,eA,aC,aN,zp7,zk,o,b]
def wd(ad:D)(n:Int):MO:=.ins "Wood" [("adding",ad),("nodes_made",.int n)]
theorem na:((Str.ofString "nodes_made")==(Str.ofString "adding"))=false:=by decide +kernel
theorem na':¬ (Str.ofString "adding"=Str.ofString "nodes_made"):=by decide +kernel
theorem na2:((Str.ofString "numbered")==(Str.ofString "adding"))=false:=by decide +kernel
theorem na3:((Str.ofString "numbered")==(Str.ofString "nodes_made"))=false:=by decide +kernel
theorem na4:((Str.ofString "node")==(Str.ofString "adding"))=false:=by decide +kernel
theorem na5:((Str.ofString "node")==(Str.ofString "nodes_made"))=false:=by decide +kernel
theorem na8:((Str.ofString "turned")==(Str.ofString "adding"))=false:=by decide +kernel
theorem na9:((Str.ofString "turned")==(Str.ofString "nodes_made"))=false:=by decide +kernel
theorem zdc{i:Nat}{av:D}{n:Int}{xs:List D}(h:S[i]? = some (wd av n))(hl:1+xs.length<=sizeLine) :
   xf [.obj i,.tup xs] S=some (.tup (.int n::xs),S.set i (wd av (n+1))):=by
 have h1:(1:Nat)<=sizeLine:=by decide
 unfold wd at h ⊢;simp[xf,zv,za4,zt,qo,yw,eV,ki,h,j9,e2,zz,eK,qx,kf,aC,aN,eA,zd5,List.lookup,na,na',hl,h1]
def wfs(av:D)(n:Int):List (Str×D):=[("adding",av),("nodes_made",.int n)]
theorem qp{i:Nat}{av:D}{n:Int}(h:S[i]? = some (wd av n)):ki (Str.ofString "Wood") S (.obj i)=some (i,wfs av n):=by simp[ki,h,wd,wfs]
theorem xb(av:D)(n:Int):(wfs av n).lookup (Str.ofString "node")=none:=by simp[wfs,List.lookup,na4,na5]
theorem zc1(av:D)(n:Int):(wfs av n).lookup (Str.ofString "turned")=none:=by simp[wfs,List.lookup,na8,na9]
theorem zkq(av:D)(n:Int):(wfs av n).lookup (Str.ofString "adding")=some av:=by simp[wfs,List.lookup]
theorem zc2(av:D)(n:Int):(wfs av n).lookup (Str.ofString "numbered")=none:=by simp[wfs,List.lookup,na2,na3]
theorem qw{f:E}(h:f ev S=some (d,S1)):xk f ev S=some (.nx ev,S1):=by simp[xk,h]
theorem zkl{N n:Nat}{c:C}{ds:List D}{S S':Sto}{e:Ev}(hl:ds.length=n)(h:c (ds.map some++List.replicate (N-ds.length) none) S=some (.nx e,S')):zv N n c ds S=some (.non,S'):=by unfold zv;rw[z2v hl,h]
theorem zz1{x y:Int}(h:x<=y):zfa (.int x) (.int y)=some (.bl false):=by show some (D.bl (decide (y<x)))=_;rw[z2b (by omega)]
theorem ze5{m:Nat}(h:m<=2000)(S:Sto):xu [.int m] S=some (.non,S):=zkl rfl (zm (q8 (e_2 (e_v rfl) e_k (zz1 (by omega)))))
theorem zs4{i:Nat}{n:Int}(h:S[i]? = some (wd (kg k) n))(ml:Mk k l lt lh)(mr:Mk k r rt rh)(ht:Thing k t)(h1:lh<=rh+1)(h2:rh<=lh+1)(hn:lt.length+1+rt.length<=2000) :
   z8 [.obj i,l,t,r] S=some (mkD n false l t r (lt.length+1+rt.length:Nat) (max lh rh+1:Nat) (zb7 k (lt++t::rt)) (zb7 k (lt++t::rt).reverse),S.set i (wd (kg k) (n+1))):=by
 have hz:sizeLine=16777216:=z3a;have q:=ze3 ml mr S;have b:=y7 ml mr S;have hh:=zdm ml mr S;have sa:=zez ml mr ht hn S;rw[z2g (show lh<=rh+1/\rh<=lh+1 from⟨h1,h2⟩)]at b;exact jz rfl (ze (zj (zg (a_c (e_v rfl) (a_c (e_v rfl) a_n)) q)) (ze (qw (zg (a_c (e_v rfl) a_n) (ze5 hn S))) (ze (zm (zt8 (q8 (zg (a_c (e_v rfl) (a_c (e_v rfl) a_n)) b)))) (ze (zj (jr (a_c (e_v rfl) (a_c (zg (a_c (e_v rfl) (a_c (e_v rfl) a_n)) hh) a_n)) (by simp))) (ze (zj (zg (a_c (zdv (e_v rfl) (qp h) (zkq _ _)) (a_c (e_v rfl) (a_c (e_v rfl) (a_c (e_v rfl) a_n)))) sa)) (zq (qs (e_v rfl) (qp h) (zc2 _ _) (a_c (e_2 (e_2 (jr (a_c e_k (a_c (e_v rfl) (a_c (e_v rfl) (a_c (e_v rfl) a_n)))) (by simp)) (e_v rfl) (zf6 (by simp))) (e_v rfl) (zf6 (by simp))) a_n) (zdc h (by simp;omega)))))))))
theorem zs5{n:Int}(ml:Mk k l lt lh)(mr:Mk k r rt rh)(ht:Thing k t)(h1:lh<=rh+1)(h2:rh<=lh+1) :
   Mk k (mkD n false l t r (lt.length+1+rt.length:Nat) (max lh rh+1:Nat) (zb7 k (lt++t::rt)) (zb7 k (lt++t::rt).reverse)) (lt++t::rt) (max lh rh+1):=by
 have:=Mk.node (num:=n) (a:=false) ml mr ht h1 h2;simpa [ord] using this
theorem zjr{i:Nat}:q9 [.obj i,.non] S=some (.non,S):=rfl
theorem zn7{i:Nat}{n num:Int}{av:D}{a:Bool}{sz ht:Int}{to ba:D}(h:S[i]? = some (wd av n)) :
   q9 [.obj i,mkD num a l t r sz ht to ba] S=some (mkD n (!a) l t r sz ht ba to,S.set i (wd av (n+1))):=by
 have hz:sizeLine=16777216:=z3a;unfold mkD;exact jz rfl (ze (zm (q8 (e_2 (e_v rfl) e_k rfl))) (ze (zj (jr (a_c (qm (e_v rfl) e_k rfl) (a_c (qm (e_v rfl) e_k rfl) (a_c (qm (e_v rfl) e_k rfl) a_n))) (by simp))) (zq (qs (e_v rfl) (qp h) (zc2 _ _) (a_c (e_2 (e_2 (jr (a_c (z0d (qm (e_v rfl) e_k rfl)) a_n) (by simp)) (e_v rfl) (zf6 (by simp))) (jr (a_c (zg (a_c (e_v rfl) a_n) (zqb _ _ _ _ _ _ _ _ _ _)) (a_c (zg (a_c (e_v rfl) a_n) (zje _ _ _ _ _ _ _ _ _ _)) (a_c (zg (a_c (e_v rfl) a_n) (zq8 _ _ _ _ _ _ _ _ _ _)) (a_c (zg (a_c (e_v rfl) a_n) (zkx _ _ _ _ _ _ _ _ _ _)) a_n)))) (by simp)) (zf6 (by simp))) a_n) (zdc h (by simp;omega))))))
theorem zkt{num n:Int}{a:Bool}{sz ht:Int}{to ba:D}(m:Mk k (mkD num a l t r sz ht to ba) ts h):Mk k (mkD n (!a) l t r sz ht ba to) ts.reverse h:=by
 generalize hd:mkD num a l t r sz ht to ba=d at m;cases m with
 |non=>cases hd
 | @node num' a' l' t' r' lt rt lh rh ml mr ht' h1 h2=>
   unfold mkD at hd;injection hd with hd;simp only[z3p,D.int.injEq,D.bl.injEq,and_true]at hd;obtain⟨rfl,rfl,rfl,rfl,rfl,rfl,rfl,rfl,rfl⟩:=hd;have:=Mk.node (num:=n) (a:=!a) ml mr ht' h1 h2;have e:ord (!a) (lt++t::rt)=(ord a (lt++t::rt)).reverse:=by cases a<;>simp[ord]
   rw[e,List.reverse_reverse]at this;exact this
theorem zkp(S:Sto)(av:D):jg [.obj S.length,av] (S++[.ins (Str.ofString "Wood") []])=some (.non,S++[wd av 0]):=by
 have q1:(S++[MO.ins (Str.ofString "Wood") []])[S.length]? = some (MO.ins (Str.ofString "Wood") []):=by simp
 have q2:∀a b:MO,(S++[a]).set S.length b=S++[b]:=by intro a b;simp
 have q3:∀a:MO,(S++[a])[S.length]? = some a:=by intro a;simp
 simp[jg,zv,yc,zt,j9,eV,eK,ki,zd5,na',wd,q1,q2,q3]
theorem zrf:zaf (Str.ofString "Wood") (znj 1 jg) aN ev S=some (.obj S.length,S++[wd .non 0]):=by have:=zkp S .non;simp[zaf,aN,znj,this]
inductive Tnd (n:Int):D->D->Int->Prop where
 |non:Tnd n .non .non n
 |node {num:Int}{a:Bool}{l t r:D}{sz ht:Int}{to ba:D}:Tnd n (mkD num a l t r sz ht to ba) (mkD n (!a) l t r sz ht ba to) (n+1)
structure At (S S':Sto) (i:Nat) (av:D) (n n':Int):Prop where
 at_:S'[i]? = some (wd av n')
 le:n<=n'
 ne:∀j,j≠i->S'[j]? = S[j]?
 len:S'.length=S.length
theorem At.refl{i:Nat}{av:D}{n:Int}(h:S[i]? = some (wd av n)):At S S i av n n:=⟨h,Int.le_refl _,fun _ _=>rfl,rfl⟩
theorem At.set{i:Nat}{av:D}{n n':Int}(h:S[i]? = some (wd av n))(hn:n<=n'):At S (S.set i (wd av n')) i av n n':=⟨zlh h,hn,fun j hj=>zva (z26 hj) _,by simp⟩
theorem At.trans {S2:Sto}{i:Nat}{av:D}{n n' n'':Int} (a:At S S1 i av n n') (b:At S1 S2 i av n' n''):At S S2 i av n n'':=⟨b.at_,Int.le_trans a.le b.le,fun j hj=>(b.ne j hj).trans (a.ne j hj),b.len.trans a.len⟩
theorem zb8{i:Nat}{av:D}{n:Int}(m:Mk k d ts h)(hw:S[i]? = some (wd av n)):∃d' n' S',q9 [.obj i,d] S=some (d',S')/\Mk k d' ts.reverse h/\Tnd n d d' n'/\At S S' i av n n':=by
 have m0:=m;cases m with
 |non=>exact⟨.non,n,S,zjr,.non,.non,At.refl hw⟩
 |node ml mr ht h1 h2=>exact⟨_,_,_,zn7 hw,zkt m0,.node,At.set hw (by omega)⟩
theorem zo1{i:Nat}{n num:Int}{av:D}{a:Bool}{sz ht:Int}{to ba:D}(m:Mk k (mkD num a l t r sz ht to ba) ts h)(hw:S[i]? = some (wd av n)) :
   ∃x y n' S' xt yt xh yh,xo [.obj i,mkD num a l t r sz ht to ba] S=some (.tup [x,t,y],S')/\At S S' i av n n'/\Mk k x xt xh/\Mk k y yt yh/\ts=xt++t::yt/\h=max xh yh+1/\xh<=yh+1/\yh<=xh+1/\Thing k t /\
     ((a=false/\x=l/\y=r/\n'=n/\S'=S)\/(a=true/\∃n1,Tnd n r x n1/\Tnd n1 l y n')):=by
 have hs:(3:Nat)<=16777216:=by decide
 generalize hd:mkD num a l t r sz ht to ba=d at m;cases m with
 |non=>cases hd
 | @node num' a' l' t' r' lt rt lh rh ml mr ht' h1 h2=>
   unfold mkD at hd;injection hd with hd;simp only[z3p,D.int.injEq,D.bl.injEq,and_true]at hd;obtain⟨rfl,rfl,rfl,rfl,rfl,rfl,rfl,rfl,rfl⟩:=hd;generalize ((lt.length+1+rt.length:Nat):Int)=sz;generalize ((max lh rh+1:Nat):Int)=hh;generalize zb7 k (ord a (lt++t::rt))=to;generalize zb7 k (ord a (lt++t::rt)).reverse=ba;cases a
   · refine⟨l,r,n,S,lt,rt,lh,rh,?_,At.refl hw,ml,mr,rfl,rfl,h1,h2,ht',.inl ⟨rfl,rfl,rfl,rfl,rfl⟩⟩;rfl
   · obtain⟨x,n1,S1,c1,mx,t1,w1⟩:=zb8 mr hw;obtain⟨y,n2,S2,c2,my,t2,w2⟩:=zb8 ml w1.at_;refine⟨x,y,n2,S2,rt.reverse,lt.reverse,rh,lh,?_,w1.trans w2,mx,my,by simp[ord],by rw[Nat.max_comm],h2,h1,ht',.inr ⟨rfl,n1,t1,t2⟩⟩;have f0:zhi (bE (e2s qj (eV 1) (eK (.int 1)))) [some (.obj i),some (.tup [.int num,.bl true,l,t,r,.int sz,.int hh,to,ba]),none,none] S=some (false,S):=rfl;have f1:qo 2 (qc "Wood" "turned" q9 (eV 0) (aC (e2s qj (eV 1) (eK (.int 4))) aN)) [some (.obj i),some (.tup [.int num,.bl true,l,t,r,.int sz,.int hh,to,ba]),none,none] S=some (.nx [some (.obj i),some (.tup [.int num,.bl true,l,t,r,.int sz,.int hh,to,ba]),some x,none],S1) :=
       zj (qs (e_v rfl) (qp hw) (zc1 _ _) (a_c (qm (e_v rfl) e_k rfl) a_n) c1)
     have f2:qo 3 (qc "Wood" "turned" q9 (eV 0) (aC (e2s qj (eV 1) (eK (.int 2))) aN)) [some (.obj i),some (.tup [.int num,.bl true,l,t,r,.int sz,.int hh,to,ba]),some x,none] S1=some (.nx [some (.obj i),some (.tup [.int num,.bl true,l,t,r,.int sz,.int hh,to,ba]),some x,some y],S2) :=
       zj (qs (e_v rfl) (qp w1.at_) (zc1 _ _) (a_c (qm (e_v rfl) e_k rfl) a_n) c2)
     have f3:qx (kf (aC (eV 2) (aC (e2s qj (eV 1) (eK (.int 3))) (aC (eV 3) aN)))) [some (.obj i),some (.tup [.int num,.bl true,l,t,r,.int sz,.int hh,to,ba]),some x,some y] S2=some (.rt (.tup [x,t,y]),S2):=by unfold qx;rw[jr (a_c (e_v rfl) (a_c (qm (e_v rfl) e_k rfl) (a_c (e_v rfl) a_n))) (by simp)];rfl
     simp only[xo,zv,zns,mkD];simp only[List.length_cons,List.length_nil,Nat.reduceAdd,z37,z2o,z5w,Nat.reduceSub,List.replicate,List.cons_append,List.nil_append];simp only[zt,sIf,f0,Option.bind_some,z21,z36,j8,f1,f2,f3]
end Pg
namespace Pg
open PySem L2 F Mt
variable {k:Nat} [Kd k] {d l r t x y:D}{ts lt rt:List D}{h lh rh i:Nat}{n:Int}{S S0 S1:Sto}{ev e:Ev}{P Q:D->Prop}{a b new:List D}
def num:D->Int
 | .tup (.int n::_)=>n
 |_=>0
inductive All (P:D->Prop):D->Prop where
 |non:All P .non
 |node {m:Int}{a:Bool}{l t r:D}{sz ht:Int}{to ba:D}:P (mkD m a l t r sz ht to ba)->All P l->All P r->All P (mkD m a l t r sz ht to ba)
theorem All.inv{m:Int}{a:Bool}{sz ht:Int}{to ba:D}(h:All P (mkD m a l t r sz ht to ba)):All P l/\All P r:=by
 generalize e:mkD m a l t r sz ht to ba=d at h;cases h with
 |non=>cases e
 | node _ b c=>
   unfold mkD at e;injection e with e;simp only[z3p,and_true]at e;obtain⟨_,_,rfl,_,rfl,_⟩:=e;exact⟨b,c⟩
theorem All.mono(h:All P d)(f:∀v,P v->Q v):All Q d:=by
 induction h with
 |non=>exact .non
 |node a _ _ b c=>exact .node (f _ a) b c
def Ac(P:D->Prop)(n:Int)(new:List D)(v:D):Prop:=P v\/∃j:Nat,new[j]? = some v/\num v=n+j
theorem Ac.app{v:D}(h:Ac P n a v):Ac P n (a++b) v:=h.imp id fun⟨j,h1,h2⟩=>⟨j,by rw[z2k (z15.mp h1).1,h1],h2⟩
theorem Ac.two{v:D}(h:Ac (Ac P n a) (n+a.length) b v):Ac P n (a++b) v:=by
 rcases h with h | ⟨j,h1,h2⟩
 · exact h.app
 · exact .inr ⟨a.length+j,by rw[z2j (z3d _ _),Nat.add_sub_cancel_left,h1],by omega⟩
theorem All.old(h:All P d):All (Ac P n a) d:=h.mono fun _=>.inl
theorem All.app(h:All (Ac P n a) d):All (Ac P n (a++b)) d:=h.mono fun _=>Ac.app
theorem All.two(h:All (Ac (Ac P n a) (n+a.length) b) d):All (Ac P n (a++b)) d:=h.mono fun _=>Ac.two
abbrev Wt(k i:Nat)(S:Sto)(n:Int)(new:List D)(S':Sto):Prop:=At S S' i (kg k) n (n+new.length)
theorem Wt.nil(hw:S[i]? = some (wd (kg k) n)):Wt k i S n [] S:=by have:=At.refl hw;unfold Wt;rw[show n+(([]:List D).length:Int)=n from z5x n];exact this
theorem Wt.two(w:Wt k i S0 n a S)(w':Wt k i S (n+a.length) b S1):Wt k i S0 n (a++b) S1:=by
 have:=At.trans w w';have e:n+(a.length:Int)+b.length=n+((a++b).length:Nat):=by rw[z13];omega
 unfold Wt;rw[<-e];exact this
structure Top (a b h:Nat):Prop where
 l:a<h
 r:b<h
 e:h=a+1\/h=b+1
theorem zho(a b:Nat):Top a b (max a b+1):=⟨by omega,by omega,by omega⟩
structure Res (k i:Nat) (S:Sto) (n:Int) (P:D->Prop) (ts:List D) (d:D) (h:Nat) (new:List D) (S':Sto):Prop where
 mm:Mk k d ts h
 wt:Wt k i S n new S'
 all:All (Ac P n new) d
theorem Res.after(w:Wt k i S0 n a S)(r:Res k i S (n+a.length) (Ac P n a) ts d h new S1):Res k i S0 n P ts d h (a++new) S1:=⟨r.mm,w.two r.wt,r.all.two⟩
theorem kh(hw:S[i]? = some (wd (kg k) n))(ml:Mk k l lt lh)(mr:Mk k r rt rh)(ht:Thing k t)(h1:lh<=rh+1)(h2:rh<=lh+1)(hn:lt.length+1+rt.length<=2000)(al:All P l)(ar:All P r) :
   ∃d S' h,z8 [.obj i,l,t,r] S=some (d,S')/\Res k i S n P (lt++t::rt) d h [d] S'/\Top lh rh h :=
 ⟨_,_,_,zs4 hw ml mr ht h1 h2 hn,⟨zs5 ml mr ht h1 h2,At.set hw (by omega),.node (.inr ⟨0,rfl,(z5x n).symm⟩) al.old ar.old⟩,zho _ _⟩
theorem Tnd.ac{d':D}{n1:Int}(t:Tnd n d d' n1)(a:All P d):∃new:List D,n1=n+new.length/\All (Ac P n new) d'/\new.length<=1:=by
 cases t with
 |non=>exact⟨[],(z5x n).symm,.non,by simp⟩
 |node=>exact⟨[_],rfl,.node (.inr ⟨0,rfl,(z5x n).symm⟩) a.inv.1.old a.inv.2.old,by simp⟩
theorem zn8(m:Mk k d ts h)(hw:S[i]? = some (wd (kg k) n))(al:All P d):∃d' new S',q9 [.obj i,d] S=some (d',S')/\Res k i S n P ts.reverse d' h new S'/\new.length<=1:=by obtain⟨d',n',S',c,m',t,w⟩:=zb8 m hw;obtain⟨new,rfl,al',hl⟩:=t.ac al;exact⟨d',new,S',c,⟨m',w,al'⟩,hl⟩
structure Pts (k i:Nat) (S:Sto) (n:Int) (P:D->Prop) (ts:List D) (h:Nat) (x t y:D) (xt yt:List D) (xh yh:Nat) (new:List D) (S':Sto):Prop where
 wt:Wt k i S n new S'
 mx:Mk k x xt xh
 my:Mk k y yt yh
 ht:Thing k t
 hts:ts=xt++t::yt
 hh:Top xh yh h
 h1:xh<=yh+1
 h2:yh<=xh+1
 ax:All (Ac P n new) x
 ay:All (Ac P n new) y
 few:new.length<=2
theorem ku(m:Mk k d ts h)(hh:0<h)(hw:S[i]? = some (wd (kg k) n))(al:All P d) :
   ∃x t y xt yt xh yh new S',xo [.obj i,d] S=some (.tup [x,t,y],S')/\Pts k i S n P ts h x t y xt yt xh yh new S':=by
 have m0:=m;cases m with
 |non=>omega
 | @node num a l t r lt rt lh rh ml mr ht h1 h2=>
   obtain⟨x,y,n',S',xt,yt,xh,yh,c,w,mx,my,e1,e2,q1,q2,q3,q⟩:=zo1 m0 hw;rcases q with⟨_,rfl,rfl,rfl,rfl⟩ | ⟨_,n1,t1,t2⟩
   · exact⟨x,t,y,xt,yt,xh,yh,[],_,c,⟨Wt.nil hw,mx,my,q3,e1,e2▸zho _ _,q1,q2,al.inv.1.old,al.inv.2.old,by simp⟩⟩
   · obtain⟨a1,rfl,b1,c1⟩:=t1.ac al.inv.2;obtain⟨a2,rfl,b2,c2⟩:=t2.ac (al.inv.1.old (n:=n) (a:=a1));refine⟨x,t,y,xt,yt,xh,yh,a1++a2,S',c,⟨?_,mx,my,q3,e1,e2▸zho _ _,q1,q2,b1.app,b2.two,by rw[z13];omega⟩⟩;have e:n+(a1.length:Int)+a2.length=n+((a1++a2).length:Nat):=by rw[z13];omega
     unfold Wt;rw[<-e];exact w
theorem zyh(x y:Nat):zl4 (.int x) (.int y)=some (.bl (decide (y<=x))):=z30 (fun b=>some (D.bl b)) (z3e.mpr Int.ofNat_le)
theorem zuh(x y:Nat):zfa (.int x) (.int y)=some (.bl (decide (y<x))):=z30 (fun b=>some (D.bl b)) (z3e.mpr Int.ofNat_lt)
theorem zyd(a b c:List D):(a++t::b).length+1+c.length=a.length+1+(b++x::c).length:=by simp only[z13,List.length_cons];omega
theorem zyk(a b c:List D):a++t::(b++x::c)=a++t::b++x::c:=by simp
theorem zwn{a b:List D}{m:Nat}(h:(a++t::b).length+1+m<=2000):b.length+1+m<=2000:=by simp only[z13,List.length_cons]at h;omega
theorem zwm{a b:List D}{m:Nat}(h:m+1+(a++t::b).length<=2000):m+1+a.length<=2000:=by simp only[z13,List.length_cons]at h;omega
theorem z06{a:List D}(h:a.length<=2):(a++[x]++[y]).length<=7:=by simp only[z13,List.length_cons,List.length_nil];omega
theorem z05{a b:List D}(h:a.length<=2)(h':b.length<=2):(a++b++[x]++[y]++[t]).length<=7:=by simp only[z13,List.length_cons,List.length_nil];omega
theorem z04{a b c:List D}{f:Nat}(h:a.length<=2)(h':b.length<=9*f+1)(h3:c.length<=7):(a++b++c).length<=9*(f+1)+1:=by simp only[z13];omega
theorem zzt{a b c:List D}{m:Nat}(h:(a++t::(b++x::c)).length+1+m<=2000):a.length+1+b.length<=2000:=by simp only[z13,List.length_cons]at h;omega
theorem zzs{a b c:List D}{m:Nat}(h:(a++t::(b++x::c)).length+1+m<=2000):c.length+1+m<=2000:=by simp only[z13,List.length_cons]at h;omega
theorem zzr{a b c e:List D}(h:(a++t::(b++x::c)).length+1+e.length<=2000):(a++t::b).length+1+(c++y::e).length<=2000:=by simp only[z13,List.length_cons]at h ⊢;omega
theorem zzq{a b c:List D}{m:Nat}(h:m+1+(a++t::b++x::c).length<=2000):m+1+a.length<=2000:=by simp only[z13,List.length_cons]at h;omega
theorem zzp{a b c:List D}{m:Nat}(h:m+1+(a++t::b++x::c).length<=2000):b.length+1+c.length<=2000:=by simp only[z13,List.length_cons]at h;omega
theorem zzo{a b c e:List D}(h:e.length+1+(a++t::b++x::c).length<=2000):(e++y::a).length+1+(b++x::c).length<=2000:=by simp only[z13,List.length_cons]at h ⊢;omega
theorem z1v(a b c e:List D):a++t::b++x::(c++y::e)=a++t::(b++x::c)++y::e:=by simp
theorem z1u(a b c e:List D):a++t::b++x::(c++y::e)=a++t::(b++x::c++y::e):=by simp
theorem up1{xh yh rh lh:Nat}(hh:lh=rh+2)(p:Top xh yh lh)(q1:xh<=yh+1)(q2:yh<=xh+1)(hg:yh<=xh):yh<=rh+1/\rh<=yh+1/\∀g,Top yh rh g->(xh<=g+1/\g<=xh+1/\∀z,Top xh g z->lh<=z/\z<=lh+1):=by obtain⟨p1,p2,p3⟩:=p;refine⟨by omega,by omega,fun g ⟨g1,g2,g3⟩=>⟨by omega,by omega,fun z ⟨z1,z2,z3⟩=>⟨by omega,by omega⟩⟩⟩
theorem up2{xh yh rh lh xh' yh':Nat}(hh:lh=rh+2)(p:Top xh yh lh)(q1:xh<=yh+1)(q2:yh<=xh+1)(hg:¬ yh<=xh)(p':Top xh' yh' yh)(q3:xh'<=yh'+1)(q4:yh'<=xh'+1) :
   (xh<=xh'+1/\xh'<=xh+1)/\(yh'<=rh+1/\rh<=yh'+1)/\∀g g',Top xh xh' g->Top yh' rh g'->(g<=g'+1/\g'<=g+1/\∀z,Top g g' z->lh<=z/\z<=lh+1):=by
 obtain⟨p1,p2,p3⟩:=p;obtain⟨p4,p5,p6⟩:=p';have e1:xh=rh:=by omega
 have e2:yh=rh+1:=by omega
 subst e1 e2;refine⟨⟨by omega,by omega⟩,⟨by omega,by omega⟩,fun g g' ⟨g1,g2,g3⟩ ⟨g4,g5,g6⟩=>?_⟩;have e3:g=xh+1:=by omega
 have e4:g'=xh+1:=by omega
 subst e3 e4;exact⟨by omega,by omega,fun z ⟨z1,z2,z3⟩=>⟨by omega,by omega⟩⟩
theorem Top.sym{a b h:Nat}(p:Top a b h):Top b a h:=⟨p.r,p.l,p.e.symm⟩
theorem zed(hw:S[i]? = some (wd (kg k) n))(ml:Mk k l lt lh)(mr:Mk k r rt rh)(ht:Thing k t)(hh:lh=rh+2)(hn:lt.length+1+rt.length<=2000)(al:All P l)(ar:All P r) :
   ∃d h new S',zab [.obj i,l,t,r] S=some (d,S')/\Res k i S n P (lt++t::rt) d h new S'/\(lh<=h/\h<=lh+1)/\new.length<=7:=by
 obtain⟨x,u,y,xt,yt,xh,yh,w1,S1,c1,p⟩:=ku ml (by omega) hw al;have e1:=p.hts;subst e1;have e2:=p.hh;have f1:=p.few;by_cases hg:yh<=xh
 · obtain⟨k1,k2,k3⟩:=up1 hh p.hh p.h1 p.h2 hg;have hge:zl4 (.int xh) (.int yh)=some (.bl true):=by rw[zyh,z2g hg]
   clear hg;obtain⟨d1,S2,g1,c2,r2,t2⟩:=kh p.wt.at_ p.my mr ht k1 k2 (zwn hn) p.ay ar.old;have r2:=r2.after p.wt;obtain⟨k4,k5,k6⟩:=k3 _ t2;obtain⟨d2,S3,g2,c3,r3,t3⟩:=kh r2.wt.at_ p.mx r2.mm p.ht k4 k5 (by rw[<-zyd];exact hn) p.ax.app r2.all;have r3:=r3.after r2.wt;exact⟨d2,_,_,S3,jz rfl (ze (zj (zg (a_c (e_v rfl) (a_c (e_v rfl) a_n)) c1)) (qv (qd (q8 (e_2 (zg (a_c (qm (e_v rfl) e_k rfl) a_n) (ql p.mx S1)) (zg (a_c (qm (e_v rfl) e_k rfl) a_n) (ql p.my S1)) hge)) (zq (qs (e_v rfl) (qp p.wt.at_) (xb _ _) (a_c (qm (e_v rfl) e_k rfl) (a_c (qm (e_v rfl) e_k rfl) (a_c (qs (e_v rfl) (qp p.wt.at_) (xb _ _) (a_c (qm (e_v rfl) e_k rfl) (a_c (e_v rfl) (a_c (e_v rfl) a_n))) c2) a_n))) c3))))),zyk xt yt rt▸r3,k6 _ t3,z06 f1⟩
 · have hge:zl4 (.int xh) (.int yh)=some (.bl false):=by rw[zyh,z2b hg]
   obtain⟨x',v,y',xt',yt',xh',yh',w2,S2,c2,p2⟩:=ku p.my (by omega) p.wt.at_ p.ay;have e3:=p2.hts;subst e3;obtain⟨⟨k1,k2⟩,⟨k3,k4⟩,k5⟩:=up2 hh p.hh p.h1 p.h2 hg p2.hh p2.h1 p2.h2;have f2:=p2.few;clear hg e2;have wt2:=p.wt.two p2.wt;obtain⟨d1,S3,g1,c3,r3,t3⟩:=kh wt2.at_ p.mx p2.mx p.ht k1 k2 (zzt hn) p.ax.app p2.ax.two;have r3:=r3.after wt2;obtain⟨d2,S4,g2,c4,r4,t4⟩:=kh r3.wt.at_ p2.my mr ht k3 k4 (zzs hn) p2.ay.two.app ar.old;have r4:=r4.after r3.wt;obtain⟨k6,k7,k8⟩:=k5 _ _ t3 t4;obtain⟨d3,S5,g3,c5,r5,t5⟩:=kh r4.wt.at_ r3.mm r4.mm p2.ht k6 k7 (zzr hn) r3.all.app r4.all;have r5:=r5.after r4.wt;exact⟨d3,_,_,S5,jz rfl (ze (zj (zg (a_c (e_v rfl) (a_c (e_v rfl) a_n)) c1)) (ze (zm (q8 (e_2 (zg (a_c (qm (e_v rfl) e_k rfl) a_n) (ql p.mx S1)) (zg (a_c (qm (e_v rfl) e_k rfl) a_n) (ql p.my S1)) hge))) (ze (zj (zg (a_c (e_v rfl) (a_c (qm (e_v rfl) e_k rfl) a_n)) c2)) (ze (zj (qs (e_v rfl) (qp wt2.at_) (xb _ _) (a_c (qm (e_v rfl) e_k rfl) (a_c (qm (e_v rfl) e_k rfl) (a_c (qm (e_v rfl) e_k rfl) a_n))) c3)) (ze (zj (qs (e_v rfl) (qp r3.wt.at_) (xb _ _) (a_c (qm (e_v rfl) e_k rfl) (a_c (e_v rfl) (a_c (e_v rfl) a_n))) c4)) (zq (qs (e_v rfl) (qp r4.wt.at_) (xb _ _) (a_c (e_v rfl) (a_c (qm (e_v rfl) e_k rfl) (a_c (e_v rfl) a_n))) c5))))))),z1v xt xt' yt' rt▸r5,k8 _ t5,z05 f1 f2⟩
theorem zde(hw:S[i]? = some (wd (kg k) n))(ml:Mk k l lt lh)(mr:Mk k r rt rh)(ht:Thing k t)(hh:rh=lh+2)(hn:lt.length+1+rt.length<=2000)(al:All P l)(ar:All P r) :
   ∃d h new S',yl [.obj i,l,t,r] S=some (d,S')/\Res k i S n P (lt++t::rt) d h new S'/\(rh<=h/\h<=rh+1)/\new.length<=7:=by
 obtain⟨x,u,y,xt,yt,xh,yh,w1,S1,c1,p⟩:=ku mr (by omega) hw ar;have e1:=p.hts;subst e1;have e2:=p.hh;have f1:=p.few;by_cases hg:xh<=yh
 · obtain⟨k1,k2,k3⟩:=up1 hh p.hh.sym p.h2 p.h1 hg;have hge:zl4 (.int yh) (.int xh)=some (.bl true):=by rw[zyh,z2g hg]
   clear hg;obtain⟨d1,S2,g1,c2,r2,t2⟩:=kh p.wt.at_ ml p.mx ht k2 k1 (zwm hn) al.old p.ax;have r2:=r2.after p.wt;obtain⟨k4,k5,k6⟩:=k3 _ t2.sym;obtain⟨d2,S3,g2,c3,r3,t3⟩:=kh r2.wt.at_ r2.mm p.my p.ht k5 k4 (by rw[zyd];exact hn) r2.all p.ay.app;have r3:=r3.after r2.wt;exact⟨d2,_,_,S3,jz rfl (ze (zj (zg (a_c (e_v rfl) (a_c (e_v rfl) a_n)) c1)) (qv (qd (q8 (e_2 (zg (a_c (qm (e_v rfl) e_k rfl) a_n) (ql p.my S1)) (zg (a_c (qm (e_v rfl) e_k rfl) a_n) (ql p.mx S1)) hge)) (zq (qs (e_v rfl) (qp p.wt.at_) (xb _ _) (a_c (qs (e_v rfl) (qp p.wt.at_) (xb _ _) (a_c (e_v rfl) (a_c (e_v rfl) (a_c (qm (e_v rfl) e_k rfl) a_n))) c2) (a_c (qm (e_v rfl) e_k rfl) (a_c (qm (e_v rfl) e_k rfl) a_n))) c3))))),(zyk lt xt yt).symm▸r3,k6 _ t3.sym,z06 f1⟩
 · have hge:zl4 (.int yh) (.int xh)=some (.bl false):=by rw[zyh,z2b hg]
   obtain⟨x',v,y',xt',yt',xh',yh',w2,S2,c2,p2⟩:=ku p.mx (by omega) p.wt.at_ p.ax;have e3:=p2.hts;subst e3;obtain⟨⟨k1,k2⟩,⟨k3,k4⟩,k5⟩:=up2 hh p.hh.sym p.h2 p.h1 hg p2.hh.sym p2.h2 p2.h1;have f2:=p2.few;clear hg e2;have wt2:=p.wt.two p2.wt;obtain⟨d1,S3,g1,c3,r3,t3⟩:=kh wt2.at_ ml p2.mx ht k4 k3 (zzq hn) al.old p2.ax.two;have r3:=r3.after wt2;obtain⟨d2,S4,g2,c4,r4,t4⟩:=kh r3.wt.at_ p2.my p.my p.ht k2 k1 (zzp hn) p2.ay.two.app p.ay.app.app;have r4:=r4.after r3.wt;obtain⟨k6,k7,k8⟩:=k5 _ _ t4.sym t3.sym;obtain⟨d3,S5,g3,c5,r5,t5⟩:=kh r4.wt.at_ r3.mm r4.mm p2.ht k7 k6 (zzo hn) r3.all.app r4.all;have r5:=r5.after r4.wt;exact⟨d3,_,_,S5,jz rfl (ze (zj (zg (a_c (e_v rfl) (a_c (e_v rfl) a_n)) c1)) (ze (zm (q8 (e_2 (zg (a_c (qm (e_v rfl) e_k rfl) a_n) (ql p.my S1)) (zg (a_c (qm (e_v rfl) e_k rfl) a_n) (ql p.mx S1)) hge))) (ze (zj (zg (a_c (e_v rfl) (a_c (qm (e_v rfl) e_k rfl) a_n)) c2)) (ze (zj (qs (e_v rfl) (qp wt2.at_) (xb _ _) (a_c (e_v rfl) (a_c (e_v rfl) (a_c (qm (e_v rfl) e_k rfl) a_n))) c3)) (ze (zj (qs (e_v rfl) (qp r3.wt.at_) (xb _ _) (a_c (qm (e_v rfl) e_k rfl) (a_c (qm (e_v rfl) e_k rfl) (a_c (qm (e_v rfl) e_k rfl) a_n))) c4)) (zq (qs (e_v rfl) (qp r4.wt.at_) (xb _ _) (a_c (e_v rfl) (a_c (qm (e_v rfl) e_k rfl) (a_c (e_v rfl) a_n))) c5))))))),z1u lt xt' yt' yt▸r5,k8 _ t5.sym,z05 f1 f2⟩
structure Hi (a b h:Nat):Prop where
 l:a<=h
 r:b<=h
 m:∀z,a<=z->b<=z->h<=z+1
theorem Top.hi{a b h:Nat}(p:Top a b h):Hi a b h:=⟨z3u p.l,z3u p.r,fun z h1 h2=>by rcases p.e with rfl | rfl<;>omega⟩
theorem xp(hw:S[i]? = some (wd (kg k) n))(ml:Mk k l lt lh)(mr:Mk k r rt rh)(ht:Thing k t)(h1:lh<=rh+2)(h2:rh<=lh+2)(hn:lt.length+1+rt.length<=2000)(al:All P l)(ar:All P r) :
   ∃d h new S',jy [.obj i,l,t,r] S=some (d,S')/\Res k i S n P (lt++t::rt) d h new S'/\Hi lh rh h/\(lh<=rh+1->rh<=lh+1->Top lh rh h)/\new.length<=7:=by
 have bl:=y7 ml mr S;by_cases hb:lh<=rh+1/\rh<=lh+1
 · rw[z2g hb]at bl;obtain⟨d1,S1,g1,c1,r1,t1⟩:=kh hw ml mr ht hb.1 hb.2 hn al ar;exact⟨d1,_,_,S1,jz rfl (qv (qd (q8 (zg (a_c (e_v rfl) (a_c (e_v rfl) a_n)) bl)) (zq (qs (e_v rfl) (qp hw) (xb _ _) (a_c (e_v rfl) (a_c (e_v rfl) (a_c (e_v rfl) a_n))) c1)))),r1,t1.hi,fun _ _=>t1,z11 rfl⟩
 · rw[z2b hb]at bl;by_cases hg:rh<lh
   · have e:lh=rh+2:=by omega
     obtain⟨d1,h,w,S1,c1,r1,⟨q1,q2⟩,q3⟩:=zed hw ml mr ht e hn al ar;exact⟨d1,h,w,S1,jz rfl (ze (zm (q8 (zg (a_c (e_v rfl) (a_c (e_v rfl) a_n)) bl))) (qv (qd (q8 (e_2 (zg (a_c (e_v rfl) a_n) (ql ml S)) (zg (a_c (e_v rfl) a_n) (ql mr S)) (by rw[zuh,z2g hg]))) (zq (zg (a_c (e_v rfl) (a_c (e_v rfl) (a_c (e_v rfl) (a_c (e_v rfl) a_n)))) c1))))),r1,⟨q1,z2h (z3u hg) q1,fun z z1 z2=>z2h q2 (z5r z1)⟩,fun u v=>absurd ⟨u,v⟩ hb,q3⟩
   · have e:rh=lh+2:=by omega
     obtain⟨d1,h,w,S1,c1,r1,⟨q1,q2⟩,q3⟩:=zde hw ml mr ht e hn al ar;exact⟨d1,h,w,S1,jz rfl (ze (zm (q8 (zg (a_c (e_v rfl) (a_c (e_v rfl) a_n)) bl))) (ze (zm (q8 (e_2 (zg (a_c (e_v rfl) a_n) (ql ml S)) (zg (a_c (e_v rfl) a_n) (ql mr S)) (by rw[zuh,z2b hg])))) (zq (zg (a_c (e_v rfl) (a_c (e_v rfl) (a_c (e_v rfl) (a_c (e_v rfl) a_n)))) c1)))),r1,⟨z2h (z5y.mp hg) q1,q1,fun z z1 z2=>z2h q2 (z5r z2)⟩,fun u v=>absurd ⟨u,v⟩ hb,q3⟩
theorem dn1{a b h z c:Nat}(p:Top a b h)(q1:a<=b+1)(q2:b<=a+1)(hz:z+2<=h)(j:Hi b z c):a<=c+2/\c<=a+2:=by obtain⟨p1,p2,p3⟩:=p;have:=j.l;have:=j.m (b) (z16 _) (by omega);omega
theorem dn2{a b h z c g:Nat}(p:Top a b h)(q1:a<=b+1)(q2:b<=a+1)(hz:z+2<=h)(j:Hi b z c)(q:Hi a c g)(w:a<=c+1->c<=a+1->Top a c g):Hi h z g:=by
 obtain⟨p1,p2,p3⟩:=p;have c1:=j.l;have c2:=j.m b (z16 _) (by omega);have g1:=q.l;have g2:=q.r;have:h<=g/\g<=h+1:=by
   by_cases hb:a<=c+1/\c<=a+1
   · obtain⟨w1,w2,w3⟩:=w hb.1 hb.2;omega
   · have g3:=q.m c (by omega) (z16 _);omega
 exact⟨this.1,by omega,fun y y1 _=>z2h this.2 (z5r y1)⟩
theorem dn3{a b h z f:Nat}(p:Top a b h)(q1:a<=b+1)(q2:b<=a+1)(hz:z+2<=h)(hf:h<=z+(f+1)):b<=z+f/\z<=b+f:=by obtain⟨p1,p2,p3⟩:=p;omega
theorem Hi.sym{a b h:Nat}(p:Hi a b h):Hi b a h:=⟨p.r,p.l,fun z u v=>p.m z v u⟩
theorem zat:∀(f c:Nat) {l r:D}{lt rt:List D}{lh rh:Nat}{n:Int}{S:Sto}{P:D->Prop},S[i]? = some (wd (kg k) n)->Mk k l lt lh->Mk k r rt rh->Thing k t->lt.length+1+rt.length<=2000->All P l->All P r->lh<=rh+c->rh<=lh+c->c<f ->
   ∃d h new S',kq f [.obj i,l,t,r] S=some (d,S')/\Res k i S n P (lt++t::rt) d h new S'/\Hi lh rh h/\(lh<=rh+1->rh<=lh+1->Top lh rh h)/\new.length<=9*c+1
 |0,_,_,_,_,_,_,_,_,_,_,_,_,_,_,_,_,_,_,_,hf=>absurd hf (z49 _)
 | f+1,c,l,r,lt,rt,lh,rh,n,S,P,hw,ml,mr,ht,hn,al,ar,hc1,hc2,hf=>by
   have bl:=y7 ml mr S;by_cases hb:lh<=rh+1/\rh<=lh+1
   · rw[z2g hb]at bl;obtain⟨d1,S1,g1,c1,r1,t1⟩:=kh hw ml mr ht hb.1 hb.2 hn al ar;exact⟨d1,_,_,S1,jz rfl (qv (qd (q8 (zg (a_c (e_v rfl) (a_c (e_v rfl) a_n)) bl)) (zq (qs (e_v rfl) (qp hw) (xb _ _) (a_c (e_v rfl) (a_c (e_v rfl) (a_c (e_v rfl) a_n))) c1)))),r1,t1.hi,fun _ _=>t1,z48 _ _⟩
   · rw[z2b hb]at bl;cases c with
     |zero=>omega
     | succ c=>
       by_cases hg:rh<lh
       · have hz:rh+2<=lh:=by omega
         clear hc2;obtain⟨x,u,y,xt,yt,xh,yh,w1,S1,c1,p⟩:=ku ml (z4p (z2x _) hg) hw al;have e1:=p.hts;subst e1;obtain⟨k1,k2⟩:=dn3 p.hh p.h1 p.h2 hz hc1;obtain⟨d1,g1,w2,S2,c2,r2,b1,b0,b2⟩:=zat f c p.wt.at_ p.my mr ht (zwn hn) p.ay ar.old k1 k2 (Nat.lt_of_succ_lt_succ hf);have r2:=r2.after p.wt;obtain⟨k3,k4⟩:=dn1 p.hh p.h1 p.h2 hz b1;obtain⟨d2,g2,w3,S3,c3,r3,b5,b6,b7⟩:=xp r2.wt.at_ p.mx r2.mm p.ht k3 k4 (by rw[<-zyd];exact hn) p.ax.app r2.all;have r3:=r3.after r2.wt;exact⟨d2,g2,_,S3,jz rfl (ze (zm (q8 (zg (a_c (e_v rfl) (a_c (e_v rfl) a_n)) bl))) (qv (qd (q8 (e_2 (zg (a_c (e_v rfl) a_n) (ql ml S)) (zg (a_c (e_v rfl) a_n) (ql mr S)) (by rw[zuh,z2g hg]))) (ze (zj (zg (a_c (e_v rfl) (a_c (e_v rfl) a_n)) c1)) (zq (zg (a_c (e_v rfl) (a_c (qm (e_v rfl) e_k rfl) (a_c (qm (e_v rfl) e_k rfl) (a_c (zg (a_c (e_v rfl) (a_c (qm (e_v rfl) e_k rfl) (a_c (e_v rfl) (a_c (e_v rfl) a_n)))) c2) a_n)))) c3)))))),zyk xt yt rt▸r3,dn2 p.hh p.h1 p.h2 hz b1 b5 b6,fun u v=>absurd ⟨u,v⟩ hb,z04 p.few b2 b7⟩
       · have hz:lh+2<=rh:=by omega
         clear hc1;obtain⟨x,u,y,xt,yt,xh,yh,w1,S1,c1,p⟩:=ku mr (z18 (by decide) (z2h (z48 2 lh) hz)) hw ar;have e1:=p.hts;subst e1;obtain⟨k1,k2⟩:=dn3 p.hh.sym p.h2 p.h1 hz hc2;obtain⟨d1,g1,w2,S2,c2,r2,b1,b0,b2⟩:=zat f c p.wt.at_ ml p.mx ht (zwm hn) al.old p.ax k2 k1 (Nat.lt_of_succ_lt_succ hf);have r2:=r2.after p.wt;obtain⟨k3,k4⟩:=dn1 p.hh.sym p.h2 p.h1 hz b1.sym;obtain⟨d2,g2,w3,S3,c3,r3,b5,b6,b7⟩:=xp r2.wt.at_ r2.mm p.my p.ht k4 k3 (by rw[zyd];exact hn) r2.all p.ay.app;have r3:=r3.after r2.wt;exact⟨d2,g2,_,S3,jz rfl (ze (zm (q8 (zg (a_c (e_v rfl) (a_c (e_v rfl) a_n)) bl))) (ze (zm (q8 (e_2 (zg (a_c (e_v rfl) a_n) (ql ml S)) (zg (a_c (e_v rfl) a_n) (ql mr S)) (by rw[zuh,z2b hg])))) (ze (zj (zg (a_c (e_v rfl) (a_c (e_v rfl) a_n)) c1)) (zq (zg (a_c (e_v rfl) (a_c (zg (a_c (e_v rfl) (a_c (e_v rfl) (a_c (e_v rfl) (a_c (qm (e_v rfl) e_k rfl) a_n)))) c2) (a_c (qm (e_v rfl) e_k rfl) (a_c (qm (e_v rfl) e_k rfl) a_n)))) c3))))),(zyk lt xt yt).symm▸r3,(dn2 p.hh.sym p.h2 p.h1 hz b1.sym b5.sym fun u v=>(b6 v u).sym).sym,fun u v=>absurd ⟨u,v⟩ hb,z04 p.few b2 b7⟩
end Pg
namespace Pg
open PySem L2 F Mt
variable {k:Nat} [Kd k] {d l r t x y:D}{ts lt rt:List D}{h lh rh i:Nat}{n:Int}{S S0 S1:Sto}{ev e:Ev}{P Q:D->Prop}{a b new:List D}
theorem z0y(x y:Nat):zdb (.int x) (.int y)=some (.bl (decide (x<y))):=z30 (fun b=>some (D.bl b)) (z3e.mpr Int.ofNat_lt)
theorem z00(x y:Nat):zco (.int x) (.int y)=some (.bl (decide (x<=y))):=z30 (fun b=>some (D.bl b)) (z3e.mpr Int.ofNat_le)
theorem zwl{x y:Nat}(h:x<y):zdb (.int x) (.int y)=some (.bl true):=by rw[z0y,z2g h]
theorem zta{x y:Nat}(h:¬ x<y):zdb (.int x) (.int y)=some (.bl false):=by rw[z0y,z2b h]
theorem zuf{x y:Nat}(h:x<=y):zco (.int x) (.int y)=some (.bl true):=by rw[z00,z2g h]
theorem z01{x y:Nat}(h:¬ x<=y):zco (.int x) (.int y)=some (.bl false):=by rw[z00,z2b h]
theorem zz2{x y:Nat}(h:y<x):zfa (.int x) (.int y)=some (.bl true):=by rw[zuh,z2g h]
theorem zyg{x y:Nat}(h:¬ y<x):zfa (.int x) (.int y)=some (.bl false):=by rw[zuh,z2b h]
theorem z0c{x y:Nat}(h:x=y):zak (.int x) (.int y)=some (.bl true):=by rw[zna,h];simp
theorem zyj{x y:Nat}(h:x≠y):zak (.int x) (.int y)=some (.bl false):=by rw[zna];simp;omega
theorem zgw{f g:E}{p m q:Nat}(hf:f ev S=some (.int p,S))(hg:g ev S=some (.int m,S))(hq:p=m+1+q):e2 yd (e2 yd f g) (eK (.int 1)) ev S=some (.int q,S) :=
 e_2 (e_2 hf hg (sub_int _ _)) e_k (by rw[sub_int,show(p:Int)-m-1=q by omega])
def HB(m h:Nat):Prop:=m<2^h/\2^h<=2*m+1
theorem zti{m a b:Nat}(hm:0<m)(ha:HB (m/2) a)(hb:HB ((m-1)/2) b):a<=b+1/\b<=a+1/\∀h,Top a b h->HB m h:=by
 obtain⟨a1,a2⟩:=ha;obtain⟨b1,b2⟩:=hb;have h1:b<=a:=by
   rcases z5g a b with q | q
   · have:=Nat.pow_le_pow_right (n:=2) (by decide) (show a+1<=b from q);rw[Nat.pow_succ]at this;omega
   · exact q
 have h2:a<=b+1:=by
   rcases z5g (b+1) a with q | q
   · have:=Nat.pow_le_pow_right (n:=2) (by decide) (show b+1+1<=a from q);rw[Nat.pow_succ,Nat.pow_succ]at this;omega
   · exact q
 refine⟨h2,by omega,fun h ⟨_,_,e⟩=>?_⟩;have e:h=a+1:=by omega
 subst e;unfold HB;rw[Nat.pow_succ];cases a with
 |zero=>rw[Nat.pow_zero]at a1 a2 ⊢;omega
 |succ a=>rw[Nat.pow_succ]at a1 a2 ⊢;omega
theorem zxy(p a c:List D):atI (p++a++t::c) (((p.length+a.length:Nat)):Int)=some t:=zd3 (by rw[z2j (by simp),z13];simp)
theorem halves:∀{ts:List D},ts≠[]->∃a t b,ts=a++t::b/\a.length=ts.length/2/\b.length=(ts.length-1)/2:=fun {ts} h=>by
 have hl:0<ts.length:=z28.mpr h;have hm:ts.length/2<ts.length:=by omega
 refine⟨ts.take (ts.length/2),ts[ts.length/2],ts.drop (ts.length/2+1),?_,?_,?_⟩
 · rw[<-z3o hm,List.take_append_drop]
 · rw[z2d];omega
 · rw[z2s];omega
theorem zf3:∀(f:Nat) {p ts q:List D}{n:Int}{S:Sto}{P:D->Prop},S[i]? = some (wd (kg k) n)->(∀x∈ts,Thing k x)->ts.length<=2000->ts.length<2^f->∀{s e:Nat},s=p.length->e=p.length+ts.length ->
   ∃d h new S',zfj (f+1) [.obj i,.lst (p++ts++q),.int s,.int e] S=some (d,S')/\Res k i S n P ts d h new S'/\HB ts.length h
 | f,p,ts,q,n,S,P,hw,ht,hl,hf,s,e,hs,he=>by
   by_cases h0:ts=[]
   · subst h0;refine⟨.non,0,[],S,jz rfl (qv (qd (q8 (e_2 (e_v rfl) (e_v rfl) (z0c (by simp[hs,he])))) (zq e_k))),⟨.non,Wt.nil hw,.non⟩,by decide,by decide⟩
   · obtain⟨a,t,b,e0,la,lb⟩:=halves h0;have hlen:0<ts.length:=z28.mpr h0;cases f with
     |zero=>rw[Nat.pow_zero]at hf;omega
     | succ f=>
       rw[Nat.pow_succ]at hf;obtain⟨d1,h1,w1,S1,c1,r1,b1⟩:=zf3 f (p:=p) (ts:=a) (q:=t::b++q) (P:=P) hw (fun x hx=>ht x (by rw[e0];exact z4b _ hx)) (by omega) (by omega) hs rfl;obtain⟨d2,h2,w2,S2,c2,r2,b2⟩:=zf3 f (p:=p++a++[t]) (ts:=b) (q:=q) (P:=Ac P n w1) r1.wt.at_ (fun x hx=>ht x (by rw[e0];exact z2i _ (z2e _ hx))) (by omega) (by omega) (s:=p.length+a.length+1) (e:=e) (by simp;omega) (by simp;omega);have r2:=r2.after r1.wt;rw[la]at b1;rw[lb]at b2;obtain⟨q1,q2,q3⟩:=zti hlen b1 b2;have e1:p++a++(t::b++q)=p++ts++q:=by rw[e0];simp
       have e2:p++a++[t]++b++q=p++ts++q:=by rw[e0];simp
       have e3:p++ts++q=p++a++t::(b++q):=by rw[e0];simp
       rw[e1]at c1;rw[e2]at c2;obtain⟨d3,S3,h3,c3,r3,t3⟩:=kh r2.wt.at_ r1.mm r2.mm (ht t (by rw[e0];simp)) q1 q2 (by omega) r1.all.app r2.all;have r3:=r3.after r2.wt;rw[<-e0]at r3;have em:zbr (.int ((s:Int)+e)) (.int 2)=some (.int ((p.length+a.length:Nat):Int)):=by rw[zh5 (by decide),show((s:Int)+e)/2=((p.length+a.length:Nat):Int) by omega]
       exact⟨d3,h3,_,S3,jz rfl (ze (zm (q8 (e_2 (e_v rfl) (e_v rfl) (zyj (by omega))))) (ze (zj (e_2 (e_2 (e_v rfl) (e_v rfl) (add_int _ _)) e_k em)) (ze (zj (zg (a_c (e_v rfl) (a_c (e_v rfl) (a_c (e_v rfl) (a_c (e_v rfl) a_n)))) c1)) (ze (zj (zg (a_c (e_v rfl) (a_c (e_v rfl) (a_c (e_2 (e_v rfl) e_k (add_int _ _)) (a_c (e_v rfl) a_n)))) c2)) (zq (qs (e_v rfl) (qp r2.wt.at_) (xb _ _) (a_c (e_v rfl) (a_c (qm (e_v rfl) (e_v rfl) (by rw[e3];exact zxy _ _ _)) (a_c (e_v rfl) a_n))) c3)))))),r3,q3 _ t3⟩
theorem zj8(hw:S[i]? = some (wd (kg k) n))(ht:∀x∈ts,Thing k x)(hl:ts.length<=2000):∃d h new S',yr [.obj i,.lst ts] S=some (d,S')/\Res k i S n P ts d h new S':=by obtain⟨d,h,new,S1,c,r,_⟩:=zf3 (i:=i) (k:=k) 39 (p:=[]) (ts:=ts) (q:=[]) (P:=P) hw ht hl (z4p hl (by decide)) (s:=0) (e:=ts.length) rfl (by simp);rw[List.nil_append,z2y]at c;exact⟨d,h,new,S1,jz rfl (ze (qw (zg (a_c (e_a (a_c (e_v rfl) a_n) rfl) a_n) (ze5 hl S))) (zq (zg (a_c (e_v rfl) (a_c (e_v rfl) (a_c e_k (a_c (e_a (a_c (e_v rfl) a_n) rfl) a_n)))) c))),r⟩
theorem zxh(a b:Bool):zak (.bl a) (.bl b)=some (.bl (a==b)):=rfl
structure Seen (k:Nat) (us:List D) (h:Nat) (x t y:D) (c:Bool) (xt yt:List D) (xh yh:Nat):Prop where
 mx:Mk k x xt xh
 my:Mk k y yt yh
 ht:Thing k t
 hu:us=ord c xt++t::ord c yt
 hx:xh<h
 hy:yh<h
theorem zli(m:Mk k d ts h)(hh:0<h)(b:Bool)(S:Sto):∃x t y c xt yt xh yh,zjf [d,.bl b] S=some (.tup [x,t,y,.bl c],S)/\Seen k (ord b ts) h x t y c xt yt xh yh:=by
 cases m with
 |non=>omega
 | @node num a l t r lt rt lh rh ml mr ht h1 h2=>
   unfold mkD;by_cases e:a=b
   · subst e;exact⟨l,t,r,false,lt,rt,lh,rh,jz rfl (qv (qd (q8 (e_2 (qm (e_v rfl) e_k rfl) (e_v rfl) (by rw[zxh];simp))) (zq (jr (a_c (qm (e_v rfl) e_k rfl) (a_c (qm (e_v rfl) e_k rfl) (a_c (qm (e_v rfl) e_k rfl) (a_c e_k a_n)))) (z11 rfl))))),ml,mr,ht,by cases a<;>simp[ord],by omega,by omega⟩
   · exact⟨r,t,l,true,rt,lt,rh,lh,jz rfl (ze (zm (q8 (e_2 (qm (e_v rfl) e_k rfl) (e_v rfl) (by rw[zxh];simp[e])))) (zq (jr (a_c (qm (e_v rfl) e_k rfl) (a_c (qm (e_v rfl) e_k rfl) (a_c (qm (e_v rfl) e_k rfl) (a_c e_k a_n)))) (z11 rfl)))),mr,ml,ht,by cases a<;>cases b<;>simp_all [ord],by omega,by omega⟩
theorem zar(m:Mk k d ts h)(hl:ts≠[]):0<h:=by
 cases m with
 |non=>exact absurd rfl hl
 |node _ _ _ _ _=>omega
theorem zwe{p:Nat}(h:ts[p]? = some x):ts≠[]:=fun e=>by rw[e]at h;cases h
theorem zqk{c:Bool}(h:ord c ts≠[]):ts≠[]:=fun e=>h (by rw[e];cases c<;>rfl)
theorem yx:∀(f:Nat) {d:D}{ts:List D}{h p:Nat}{b:Bool},Mk k d ts h->h<=f->(ord b ts)[p]? = some x->∀S,xq f [d,.bl b,.int p] S=some (x,S)
 |0,d,ts,h,p,b,m,hf,hp,S=>absurd (zar m (zqk (zwe hp))) (z5y.mpr hf)
 | f+1,d,ts,h,p,b,m,hf,hp,S=>by
   obtain⟨u,t,y,c,xt,yt,xh,yh,c1,s⟩:=zli m (zar m (zqk (zwe hp))) b S;have hu:=s.hu;rw[hu]at hp;have lx:=kv c xt;have hx:=s.hx;have hy:=s.hy;have c2:=ja s.mx S;by_cases h1:p<xt.length
   · rw[z2k (by omega)]at hp;exact jz rfl (ze (zj (zg (a_c (e_v rfl) (a_c (e_v rfl) a_n)) c1)) (ze (zj (zg (a_c (qm (e_v rfl) e_k rfl) a_n) c2)) (qv (qd (q8 (e_2 (e_v rfl) (e_v rfl) (zwl h1))) (zq (zg (a_c (qm (e_v rfl) e_k rfl) (a_c (qm (e_v rfl) e_k rfl) (a_c (e_v rfl) a_n))) (yx f s.mx (by omega) hp S)))))))
   · rw[z2j (by omega),lx]at hp;by_cases h2:xt.length<p
     · have e:p=xt.length+1+(p-xt.length-1):=by omega
       rw[show p-xt.length=(p-xt.length-1)+1 by omega,List.getElem?_cons_succ]at hp;exact jz rfl (ze (zj (zg (a_c (e_v rfl) (a_c (e_v rfl) a_n)) c1)) (ze (zj (zg (a_c (qm (e_v rfl) e_k rfl) a_n) c2)) (ze (zm (q8 (e_2 (e_v rfl) (e_v rfl) (zta h1)))) (qv (qd (q8 (e_2 (e_v rfl) (e_v rfl) (zz2 h2))) (zq (zg (a_c (qm (e_v rfl) e_k rfl) (a_c (qm (e_v rfl) e_k rfl) (a_c (zgw (e_v rfl) (e_v rfl) e) a_n))) (yx f s.my (by omega) hp S))))))))
     · rw[show p-xt.length=0 by omega,List.getElem?_cons_zero]at hp;cases hp;exact jz rfl (ze (zj (zg (a_c (e_v rfl) (a_c (e_v rfl) a_n)) c1)) (ze (zj (zg (a_c (qm (e_v rfl) e_k rfl) a_n) c2)) (ze (zm (q8 (e_2 (e_v rfl) (e_v rfl) (zta h1)))) (ze (zm (q8 (e_2 (e_v rfl) (e_v rfl) (zyg h2)))) (zq (qm (e_v rfl) e_k rfl))))))
end Pg
namespace Pg
open PySem L2 F Mt
variable {k:Nat} [Kd k] {d l r t x y:D}{ts lt rt:List D}{h lh rh i:Nat}{n:Int}{S S0 S1:Sto}{ev e:Ev}{P Q:D->Prop}{a b new:List D}
theorem zwi(m:Mk k d [] h):d=.non/\h=0:=by
 generalize e:([]:List D)=ts at m;cases m with
 |non=>exact⟨rfl,rfl⟩
 |node _ _ _ _ _=>exact absurd (z30 List.length e) (by rw[kv];simp)
theorem h15(m:Mk k d ts h)(hl:ts.length<=2000):h<=15:=by
 have q:=zwj m;rcases z5g 15 h with z | z
 · have:low 16<=low h:=zfe z;have e:low 16=2583:=by decide
   omega
 · exact z
theorem o1{xh yh h g:Nat}(p:Top xh yh h)(q1:xh<=yh+1)(q2:yh<=xh+1)(g1:g<=xh)(g2:xh<=g+1):(g<=yh+2/\yh<=g+2)/\∀z,Hi g yh z->(g<=yh+1->yh<=g+1->Top g yh z)->z<=h/\h<=z+1:=by
 obtain⟨p1,p2,p3⟩:=p;refine⟨⟨by omega,by omega⟩,fun z hz ht=>?_⟩;by_cases hb:g<=yh+1/\yh<=g+1
 · obtain⟨t1,t2,t3⟩:=ht hb.1 hb.2;omega
 · have:=hz.r;have:=hz.m yh (by omega) (z16 _);omega
theorem zpm{a b c:List D}{m xh yh h:Nat}(p:Top xh yh h)(h1:a.length<=2)(h2:b.length<=9*xh+m)(h3:c.length<=7):(a++b++c).length<=9*h+m:=by have:=p.l;simp only[z13];omega
theorem zqv{a b c:List D}{m xh yh h:Nat}(p:Top xh yh h)(h1:a.length<=2)(h2:b.length<=9*yh+m)(h3:c.length<=7):(a++b++c).length<=9*h+m:=zpm p.sym h1 h2 h3
theorem zl7:¬ (0:Nat)<0:=by decide
theorem ztd{self:G}(S:Sto):jx self [.obj i,.non,y] S=some (y,S):=rfl
theorem zl1:∀(f:Nat) {d u:D}{rest:List D}{h:Nat}{n:Int}{S:Sto}{P:D->Prop},S[i]? = some (wd (kg k) n)->Mk k d (u::rest) h->rest.length<2000->All P d->h<=f ->
   ∃d' h' new S',jw f [.obj i,d,.int (0:Nat)] S=some (d',S')/\Res k i S n P rest d' h' new S'/\(h'<=h/\h<=h'+1)/\new.length<=9*h
 |0,_,_,_,_,_,_,_,_,m,_,_,hf=>absurd (zar m (by simp)) (z5y.mpr hf)
 | f+1,d,u,rest,h,n,S,P,hw,m,hl,al,hf=>by
   obtain⟨x,v,y,xt,yt,xh,yh,w1,S1,c1,p⟩:=ku m (zar m (by simp)) hw al;have e1:=p.hts;have c2:=ja p.mx S1;cases xt with
   | nil=>
     obtain⟨rfl,rfl⟩:=zwi p.mx;simp only[List.nil_append,z3p]at e1;obtain⟨rfl,rfl⟩:=e1;have e:h=yh+1:=by have:=p.hh.l;have:=p.hh.r;have:=p.hh.e;omega
     exact⟨y,yh,w1,S1,jz rfl (ze (zj (zg (a_c (e_v rfl) (a_c (e_v rfl) a_n)) c1)) (ze (zj (zg (a_c (qm (e_v rfl) e_k rfl) a_n) c2)) (ze (zm (q8 (e_2 (e_v rfl) (e_v rfl) (zta zl7)))) (ze (zm (q8 (e_2 (e_v rfl) (e_v rfl) (zyg zl7)))) (zq (zg (a_c (e_v rfl) (a_c (qm (e_v rfl) e_k rfl) (a_c (qm (e_v rfl) e_k rfl) a_n))) (ztd S1))))))),⟨p.my,p.wt,p.ay⟩,⟨by omega,by omega⟩,by have:=p.few;omega⟩
   | cons u' xt=>
     simp only[List.cons_append,z3p]at e1;obtain⟨rfl,rfl⟩:=e1;simp only[z13,List.length_cons]at hl;have hx:=p.hh.l;obtain⟨d1,g,w2,S2,c3,r2,⟨b1,b2⟩,b3⟩:=zl1 f p.wt.at_ p.mx (by omega) p.ax (by omega);have r2:=r2.after p.wt;obtain⟨⟨k1,k2⟩,k3⟩:=o1 p.hh p.h1 p.h2 b1 b2;obtain⟨d2,g2,w3,S3,c4,r3,b5,b6,b7⟩:=xp r2.wt.at_ r2.mm p.my p.ht k1 k2 (by omega) r2.all p.ay.app;have r3:=r3.after r2.wt;exact⟨d2,g2,_,S3,jz rfl (ze (zj (zg (a_c (e_v rfl) (a_c (e_v rfl) a_n)) c1)) (ze (zj (zg (a_c (qm (e_v rfl) e_k rfl) a_n) c2)) (qv (qd (q8 (e_2 (e_v rfl) (e_v rfl) (zwl (Nat.zero_lt_succ _)))) (zq (zg (a_c (e_v rfl) (a_c (zg (a_c (e_v rfl) (a_c (qm (e_v rfl) e_k rfl) (a_c (e_v rfl) a_n))) c3) (a_c (qm (e_v rfl) e_k rfl) (a_c (qm (e_v rfl) e_k rfl) a_n)))) c4)))))),r3,k3 _ b5 b6,zpm (m:=0) p.hh p.few b3 b7⟩
theorem hi0(h:Nat):Hi 0 h h:=⟨z2x _,z16 _,fun z _ q=>Nat.le_succ_of_le q⟩
theorem ld1{lh rh g c:Nat}(g1:g<=rh)(g2:rh<=g+1)(c1:lh<=rh+c)(c2:rh<=lh+c):lh<=g+(c+1)/\g<=lh+(c+1):=by omega
theorem ld2{lh rh g z:Nat}(g1:g<=rh)(g2:rh<=g+1)(h:Hi lh g z)(w:lh<=g+1->g<=lh+1->Top lh g z)(c1:lh<=rh+1)(c2:rh<=lh+1):Hi lh rh z:=by
 refine⟨h.l,?_,fun y y1 y2=>h.m y y1 (by omega)⟩;by_cases hb:lh<=g+1/\g<=lh+1
 · obtain⟨t1,t2,t3⟩:=w hb.1 hb.2;omega
 · have:=h.l;omega
theorem zil(m:Mk k d ts h):(d=.non/\ts=[]/\h=0)\/((∃xs,d=.tup xs)/\∃u rest,ts=u::rest):=by
 cases m with
 |non=>exact .inl ⟨rfl,rfl,rfl⟩
 | @node num a l t r lt rt lh rh _ _ _ _ _=>
   refine .inr ⟨⟨_,rfl⟩,?_⟩;cases e:ord a (lt++t::rt) with
   |nil=>exact absurd (z30 List.length e) (by rw[kv];simp)
   |cons u rest=>exact⟨u,rest,rfl⟩
theorem zqp(xs:List D):zd6 (.tup xs) .non=some (.bl false):=rfl
theorem zmi{f c:Nat}(hw:S[i]? = some (wd (kg k) n))(ml:Mk k l lt lh)(mr:Mk k r rt rh)(hn:lt.length+rt.length<=2000)(al:All P l)(ar:All P r)(hf:rh<=f)(c1:lh<=rh+c)(c2:rh<=lh+c) :
   ∃d h new S',jx (jw f) [.obj i,l,r] S=some (d,S')/\Res k i S n P (lt++rt) d h new S'/\(lh<=rh+1->rh<=lh+1->Hi lh rh h)/\new.length<=9*rh+9*c+10:=by
 rcases zil ml with⟨rfl,rfl,rfl⟩ | ⟨⟨xs,rfl⟩,u0,r0,rfl⟩
 · exact⟨r,rh,[],S,rfl,⟨mr,Wt.nil hw,ar.old⟩,fun _ _=>hi0 rh,z2x _⟩
 · rcases zil mr with⟨rfl,rfl,rfl⟩ | ⟨⟨ys,rfl⟩,u,rest,rfl⟩
   · exact⟨_,lh,[],S,rfl,⟨by rw[z2y];exact ml,Wt.nil hw,al.old⟩,fun _ _=>(hi0 lh).sym,z2x _⟩
   · simp only[List.length_cons]at hn;have l15:=h15 ml (by simp only[List.length_cons];omega);have r15:=h15 mr (by simp only[List.length_cons];omega);obtain⟨d1,g,w1,S1,q1,r1,⟨b1,b2⟩,b3⟩:=zl1 f hw mr (by omega) ar hf;have at0:=yx (x:=u) 40 (b:=false) (p:=0) mr (by omega) rfl S;have hj:∃c',c'<40/\c'<=c+1/\lh<=g+c'/\g<=lh+c':=by
       obtain⟨z1,z2⟩:=ld1 b1 b2 c1 c2;rcases z5g c 30 with q | q
       · exact⟨c+1,by omega,z16 _,z1,z2⟩
       · exact⟨16,by decide,by omega,by omega,by omega⟩
     obtain⟨c',j1,j2,j3,j4⟩:=hj;obtain⟨d2,g2,w2,S2,q2,r2,b5,b6,b7⟩:=zat 40 c' r1.wt.at_ ml r1.mm (mr.things u (z2z ..)) (by simp only[List.length_cons];omega) al.old r1.all j3 j4 j1;have r2:=r2.after r1.wt;exact⟨d2,g2,_,S2,jz rfl (ze (zm (q8 (e_2 (e_v rfl) e_k (zqp _)))) (ze (zm (q8 (e_2 (e_v rfl) e_k (zqp _)))) (zq (zg (a_c (e_v rfl) (a_c (e_v rfl) (a_c (zg (a_c (e_v rfl) (a_c e_k (a_c e_k a_n))) at0) (a_c (zg (a_c (e_v rfl) (a_c (e_v rfl) (a_c e_k a_n))) q1) a_n)))) q2)))),r2,ld2 b1 b2 b5 b6,by simp only[z13];omega⟩
theorem ztz{p:Nat}(h:p<a.length):(a++t::b).eraseIdx p=a.eraseIdx p++t::b:=List.eraseIdx_append_of_lt_length h _
theorem zty:(a++t::b).eraseIdx a.length=a++b:=by rw[z4q (z16 _),Nat.sub_self];rfl
theorem ztx{q:Nat}:(a++t::b).eraseIdx (a.length+1+q)=a++t::b.eraseIdx q:=by rw[z4q (by omega),show a.length+1+q-a.length=q+1 by omega];rfl
theorem zap:∀(f:Nat) {d:D}{ts:List D}{h p:Nat}{n:Int}{S:Sto}{P:D->Prop},S[i]? = some (wd (kg k) n)->Mk k d ts h->ts.length<=2000->p<ts.length->All P d->h<=f ->
   ∃d' h' new S',jw f [.obj i,d,.int p] S=some (d',S')/\Res k i S n P (ts.eraseIdx p) d' h' new S'/\(h'<=h/\h<=h'+1)/\new.length<=9*h+21
 |0,d,ts,h,p,n,S,P,hw,m,hl,hp,al,hf=>absurd (zar m (z28.mp (by omega))) (z5y.mpr hf)
 | f+1,d,ts,h,p,n,S,P,hw,m,hl,hp,al,hf=>by
   obtain⟨x,v,y,xt,yt,xh,yh,w1,S1,c1,q⟩:=ku m (zar m (z28.mp (by omega))) hw al;have e1:=q.hts;subst e1;have c2:=ja q.mx S1;have hx:=q.hh.l;have hy:=q.hh.r;simp only[z13,List.length_cons]at hl hp;by_cases h1:p<xt.length
   · obtain⟨d1,g,w2,S2,c3,r2,⟨b1,b2⟩,b3⟩:=zap f q.wt.at_ q.mx (by omega) h1 q.ax (by omega);have r2:=r2.after q.wt;obtain⟨⟨k1,k2⟩,k3⟩:=o1 q.hh q.h1 q.h2 b1 b2;obtain⟨d2,g2,w3,S3,c4,r3,b5,b6,b7⟩:=xp r2.wt.at_ r2.mm q.my q.ht k1 k2 (by rw[z5c h1];omega) r2.all q.ay.app;have r3:=r3.after r2.wt;exact⟨d2,g2,_,S3,jz rfl (ze (zj (zg (a_c (e_v rfl) (a_c (e_v rfl) a_n)) c1)) (ze (zj (zg (a_c (qm (e_v rfl) e_k rfl) a_n) c2)) (qv (qd (q8 (e_2 (e_v rfl) (e_v rfl) (zwl h1))) (zq (zg (a_c (e_v rfl) (a_c (zg (a_c (e_v rfl) (a_c (qm (e_v rfl) e_k rfl) (a_c (e_v rfl) a_n))) c3) (a_c (qm (e_v rfl) e_k rfl) (a_c (qm (e_v rfl) e_k rfl) a_n)))) c4)))))),by rw[ztz h1];exact r3,k3 _ b5 b6,zpm q.hh q.few b3 b7⟩
   · by_cases h2:xt.length<p
     · obtain⟨z,e⟩:∃z,p=xt.length+1+z:=⟨p-xt.length-1,by omega⟩
       have hz:z<yt.length:=by omega
       obtain⟨d1,g,w2,S2,c3,r2,⟨b1,b2⟩,b3⟩:=zap f (p:=z) q.wt.at_ q.my (by omega) hz q.ay (by omega);have r2:=r2.after q.wt;obtain⟨⟨k1,k2⟩,k3⟩:=o1 q.hh.sym q.h2 q.h1 b1 b2;obtain⟨d2,g2,w3,S3,c4,r3,b5,b6,b7⟩:=xp r2.wt.at_ q.mx r2.mm q.ht k2 k1 (by rw[z5c hz];omega) q.ax.app r2.all;have r3:=r3.after r2.wt;exact⟨d2,g2,_,S3,jz rfl (ze (zj (zg (a_c (e_v rfl) (a_c (e_v rfl) a_n)) c1)) (ze (zj (zg (a_c (qm (e_v rfl) e_k rfl) a_n) c2)) (ze (zm (q8 (e_2 (e_v rfl) (e_v rfl) (zta h1)))) (qv (qd (q8 (e_2 (e_v rfl) (e_v rfl) (zz2 h2))) (zq (zg (a_c (e_v rfl) (a_c (qm (e_v rfl) e_k rfl) (a_c (qm (e_v rfl) e_k rfl) (a_c (zg (a_c (e_v rfl) (a_c (qm (e_v rfl) e_k rfl) (a_c (zgw (e_v rfl) (e_v rfl) e) a_n))) c3) a_n)))) c4))))))),by rw[e,ztx];exact r3,k3 _ b5.sym fun u v=>(b6 v u).sym,zqv q.hh q.few b3 b7⟩
     · have e:p=xt.length:=by omega
       obtain⟨d1,g,w2,S2,c3,r2,b1,b2⟩:=zmi (f:=f) (c:=1) q.wt.at_ q.mx q.my (by omega) q.ax q.ay (by omega) q.h1 q.h2;have r2:=r2.after q.wt;have hi:=b1 q.h1 q.h2;have hm:=hi.m (h-1) (by omega) (by omega);have h1':=hi.l;have h2':=hi.r;have he:=q.hh.e;have hf:=q.few;exact⟨d1,g,_,S2,jz rfl (ze (zj (zg (a_c (e_v rfl) (a_c (e_v rfl) a_n)) c1)) (ze (zj (zg (a_c (qm (e_v rfl) e_k rfl) a_n) c2)) (ze (zm (q8 (e_2 (e_v rfl) (e_v rfl) (zta h1)))) (ze (zm (q8 (e_2 (e_v rfl) (e_v rfl) (zyg h2)))) (zq (zg (a_c (e_v rfl) (a_c (qm (e_v rfl) e_k rfl) (a_c (qm (e_v rfl) e_k rfl) a_n))) c3)))))),by rw[e,zty];exact r2,⟨by omega,by omega⟩,by simp only[z13];omega⟩
end Pg
namespace Pg
open PySem L2 F Mt
variable {k:Nat} [Kd k] {d l r t x y:D}{ts lt rt:List D}{h lh rh i:Nat}{n:Int}{S S0 S1:Sto}{ev e:Ev}{P Q:D->Prop}{a b new:List D}
structure Cut (k i:Nat) (S:Sto) (n:Int) (P:D->Prop) (lt rt:List D) (h:Nat) (x y:D) (xh yh:Nat) (new:List D) (S':Sto):Prop where
 wt:Wt k i S n new S'
 mx:Mk k x lt xh
 my:Mk k y rt yh
 hx:xh<=h
 hy:yh<=h
 ax:All (Ac P n new) x
 ay:All (Ac P n new) y
 few:new.length<=9*(xh+yh)+3*h
theorem ct1{xh yh bh h:Nat}(p:Top xh yh h)(h1:xh<=yh+1)(hb:bh<=xh)(h40:h<40):∃c,c<40/\bh<=yh+c/\yh<=bh+c/\∀z ah l1 l2 l3,Hi bh yh z->(bh<=yh+1->yh<=bh+1->Top bh yh z)->l1<=2->l2<=9*(ah+bh)+3*xh->l3<=9*c+1->l1+l2+l3<=9*(ah+z)+3*h:=by
 obtain⟨p1,p2,p3⟩:=p;by_cases q:bh<=yh
 · exact⟨yh-bh,by omega,by omega,by omega,fun z ah l1 l2 l3 hz _ _ _ _=>by have:=hz.r;omega⟩
 · exact⟨1,by decide,by omega,by omega,fun z ah l1 l2 l3 _ hz _ _ _=>by have:=(hz (by omega) (by omega)).l;omega⟩
theorem zw1{a b z h:Nat}(p:Hi a b z)(h1:a<h)(h2:b<h):z<=h:=by have:=p.m (h-1) (by omega) (by omega);omega
theorem zp9{p:Nat}(h:p<=a.length):(a++t::b).take p=a.take p:=List.take_append_of_le_length h
theorem zq4{p:Nat}(h:p<=a.length):(a++t::b).drop p=a.drop p++t::b:=List.drop_append_of_le_length h
theorem zp8{q:Nat}:(a++t::b).take (a.length+1+q)=a++t::b.take q:=by rw[List.take_append,List.take_of_length_le (by omega),show a.length+1+q-a.length=q+1 by omega,List.take_succ_cons]
theorem zq2{q:Nat}:(a++t::b).drop (a.length+1+q)=b.drop q:=by rw[List.drop_append,List.drop_of_length_le (by omega),show a.length+1+q-a.length=q+1 by omega,List.drop_succ_cons,List.nil_append]
theorem kl:∀(f:Nat) {d:D}{ts:List D}{h p:Nat}{n:Int}{S:Sto}{P:D->Prop},S[i]? = some (wd (kg k) n)->Mk k d ts h->ts.length<=2000->p<=ts.length->All P d->h<f ->
   ∃x y xh yh new S',x8 f [.obj i,d,.int p] S=some (.tup [x,y],S')/\Cut k i S n P (ts.take p) (ts.drop p) h x y xh yh new S'
 |0,_,_,_,_,_,_,_,_,_,_,_,_,hf=>absurd hf (z49 _)
 | f+1,d,ts,h,p,n,S,P,hw,m,hl,hp,al,hf=>by
   by_cases h0:p=0
   · subst h0;exact⟨.non,d,0,h,[],S,jz rfl (qv (qd (q8 (e_2 (e_v rfl) e_k (z0c rfl))) (zq (jr (a_c e_k (a_c (e_v rfl) a_n)) (z11 rfl))))),Wt.nil hw,.non,m,z2x _,z16 _,.non,al.old,z2x _⟩
   · have c0:=ja m S;have e0:zak (.int p) (.int 0)=some (.bl false):=zyj (y:=0) h0;by_cases h9:p=ts.length
     · subst h9;exact⟨d,.non,h,0,[],S,jz rfl (ze (zm (q8 (e_2 (e_v rfl) e_k e0))) (qv (qd (q8 (e_2 (e_v rfl) (zg (a_c (e_v rfl) a_n) c0) (z0c rfl))) (zq (jr (a_c (e_v rfl) (a_c e_k a_n)) (z11 rfl)))))),Wt.nil hw,by rw[z40];exact m,by rw[z5s];exact .non,z16 _,z2x _,al.old,.non,z2x _⟩
     · have h40:=h15 m hl;obtain⟨x,v,y,xt,yt,xh,yh,w1,S1,c1,q⟩:=ku m (zar m (z28.mp (by omega))) hw al;have e1:=q.hts;subst e1;have c2:=ja q.mx S1;have hx:=q.hh.l;have hy:=q.hh.r;have hl':=hl;have hp':=hp;simp only[z13,List.length_cons]at hl' hp';by_cases h1:p<=xt.length
       · obtain⟨a,b,ah,bh,w2,S2,c3,u⟩:=kl f q.wt.at_ q.mx (by omega) h1 q.ax (by omega);have wt2:=q.wt.two u.wt;obtain⟨c,j1,j2,j3,j4⟩:=ct1 q.hh q.h1 u.hy (by omega);obtain⟨d2,g2,w3,S3,c4,r3,b5,b6,b7⟩:=zat 40 c wt2.at_ u.my q.my q.ht (by rw[z2s];omega) u.ay.two q.ay.app j2 j3 j1;have r3:=r3.after wt2;have fw:=j4 _ ah _ _ _ b5 b6 q.few u.few b7;refine⟨a,d2,ah,g2,_,S3,jz rfl (ze (zm (q8 (e_2 (e_v rfl) e_k e0))) (ze (zm (q8 (e_2 (e_v rfl) (zg (a_c (e_v rfl) a_n) c0) (zyj h9)))) (ze (zj (zg (a_c (e_v rfl) (a_c (e_v rfl) a_n)) c1)) (ze (zj (zg (a_c (qm (e_v rfl) e_k rfl) a_n) c2)) (qv (qd (q8 (e_2 (e_v rfl) (e_v rfl) (zuf h1))) (ze (zj (zg (a_c (e_v rfl) (a_c (qm (e_v rfl) e_k rfl) (a_c (e_v rfl) a_n))) c3)) (zq (jr (a_c (qm (e_v rfl) e_k rfl) (a_c (zg (a_c (e_v rfl) (a_c (qm (e_v rfl) e_k rfl) (a_c (qm (e_v rfl) e_k rfl) (a_c (qm (e_v rfl) e_k rfl) a_n)))) c4) a_n)) (z11 rfl)))))))))),⟨r3.wt,by rw[zp9 h1];exact u.mx,by rw[zq4 h1];exact r3.mm,z2h u.hx (z3u hx),zw1 b5 (z4p u.hy hx) hy,u.ax.two.app,r3.all,by rw[z13,z13];exact fw⟩⟩
       · obtain⟨z,e⟩:∃z,p=xt.length+1+z:=⟨p-xt.length-1,by omega⟩
         obtain⟨a,b,ah,bh,w2,S2,c3,u⟩:=kl f (p:=z) q.wt.at_ q.my (by omega) (by omega) q.ay (by omega);have wt2:=q.wt.two u.wt;obtain⟨c,j1,j2,j3,j4⟩:=ct1 q.hh.sym q.h2 u.hx (by omega);obtain⟨d2,g2,w3,S3,c4,r3,b5,b6,b7⟩:=zat 40 c wt2.at_ q.mx u.mx q.ht (by rw[z2d];omega) q.ax.app u.ax.two j3 j2 j1;have r3:=r3.after wt2;have fw:=j4 _ bh _ _ _ b5.sym (fun u v=>(b6 v u).sym) q.few (by have:=u.few;rwa [Nat.add_comm ah bh]at this) b7;rw[Nat.add_comm bh]at fw;refine⟨d2,b,g2,bh,_,S3,jz rfl (ze (zm (q8 (e_2 (e_v rfl) e_k e0))) (ze (zm (q8 (e_2 (e_v rfl) (zg (a_c (e_v rfl) a_n) c0) (zyj h9)))) (ze (zj (zg (a_c (e_v rfl) (a_c (e_v rfl) a_n)) c1)) (ze (zj (zg (a_c (qm (e_v rfl) e_k rfl) a_n) c2)) (ze (zm (q8 (e_2 (e_v rfl) (e_v rfl) (z01 h1)))) (ze (zj (zg (a_c (e_v rfl) (a_c (qm (e_v rfl) e_k rfl) (a_c (zgw (e_v rfl) (e_v rfl) e) a_n))) c3)) (zq (jr (a_c (zg (a_c (e_v rfl) (a_c (qm (e_v rfl) e_k rfl) (a_c (qm (e_v rfl) e_k rfl) (a_c (qm (e_v rfl) e_k rfl) a_n)))) c4) (a_c (qm (e_v rfl) e_k rfl) a_n)) (z11 rfl))))))))),⟨r3.wt,by rw[e,zp8];exact r3.mm,by rw[e,zq2];exact u.my,zw1 b5 hx (z4p u.hx hy),z2h u.hy (z3u hy),r3.all,u.ay.two.app,by rw[z13,z13];exact fw⟩⟩
theorem zxo{s e m:Nat}{f g w z:E}(hs:s<=e)(he:e<=m)(h0:f ev S=some (.int (0:Nat),S))(h1:g ev S=some (.int s,S))(h2:w ev S=some (.int e,S))(h3:z ev S=some (.int m,S)):zfo zco zco zco f g w z ev S=some (.bl true,S):=by simp only[zfo,h0,h1,h2,h3,Option.bind_some,zuf (z2x s),zuf hs,zuf he,Option.map_some]
theorem zju{s e:Nat}(m:Mk k d ts h)(hs:s<=e)(he:e<=ts.length)(S:Sto):ky [d,.int s,.int e] S=some (.non,S) :=
 zkl rfl (zm (zt8 (q8 (zxo hs he e_k (e_v rfl) (e_v rfl) (zg (a_c (e_v rfl) a_n) (ja m S))))))
def turn(s e:Nat)(ts:List D):List D:=ts.take s++((ts.take e).drop s).reverse++ts.drop e
theorem zn9{s e:Nat}(hs:s<=e)(he:e<=ts.length):(turn s e ts).length=ts.length:=by simp only[turn,z13,z3m,z2s,z2d];omega
theorem zmh(hw:S[i]? = some (wd (kg k) n))(ml:Mk k l lt lh)(mr:Mk k r rt rh)(hn:lt.length+rt.length<=2000)(al:All P l)(ar:All P r):∃d h new S',xx [.obj i,l,r] S=some (d,S')/\Res k i S n P (lt++rt) d h new S'/\new.length<=9*rh+9*max lh rh+10:=by have h1:=h15 mr (by omega);obtain⟨d,h,new,S1,c,r,_,b⟩:=zmi (f:=40) (c:=max lh rh) hw ml mr hn al ar (by omega) (by omega) (by omega);exact⟨d,h,new,S1,c,r,b⟩
theorem zd9{s e:Nat}(hw:S[i]? = some (wd (kg k) n))(m:Mk k d ts h)(hl:ts.length<=2000)(hs:s<=e)(he:e<=ts.length)(al:All P d):∃d' h' new S',y8 [.obj i,d,.int s,.int e] S=some (d',S')/\Res k i S n P (turn s e ts) d' h' new S':=by
 have h1:=h15 m hl;obtain⟨x,y,xh,yh,w1,S1,c1,u⟩:=kl 40 hw m hl he al (by omega);have hx:=u.hx;obtain⟨x',y',xh',yh',w2,S2,c2,u'⟩:=kl 40 (p:=s) u.wt.at_ u.mx (by rw[z2d];omega) (by rw[z2d];omega) u.ax (by omega);have wt2:=u.wt.two u'.wt;obtain⟨d3,w3,S3,c3,r3,_⟩:=zn8 u'.my wt2.at_ u'.ay.two;have r3:=r3.after wt2;obtain⟨d4,h4,w4,S4,c4,r4,_⟩:=zmh r3.wt.at_ u'.mx r3.mm (by simp only[z3m,z2s,z2d];omega) u'.ax.two.app r3.all;have r4:=r4.after r3.wt;obtain⟨d5,h5,w5,S5,c5,r5,_⟩:=zmh r4.wt.at_ r4.mm u.my (by simp only[z13,z3m,z2s,z2d];omega) r4.all u.ay.app.app.app;have r5:=r5.after r4.wt;have es:(ts.take e).take s=ts.take s:=by rw[List.take_take,z5a hs]
 rw[es]at r5;exact⟨d5,h5,_,S5,jz rfl (ze (qw (zg (a_c (e_v rfl) (a_c (e_v rfl) (a_c (e_v rfl) a_n))) (zju m hs he S))) (ze (zj (zg (a_c (e_v rfl) (a_c (e_v rfl) (a_c (e_v rfl) a_n))) c1)) (ze (zj (zg (a_c (e_v rfl) (a_c (qm (e_v rfl) e_k rfl) (a_c (e_v rfl) a_n))) c2)) (ze (zj (zg (a_c (e_v rfl) (a_c (qm (e_v rfl) e_k rfl) (a_c (qs (e_v rfl) (qp wt2.at_) (zc1 _ _) (a_c (qm (e_v rfl) e_k rfl) a_n) c3) a_n))) c4)) (zq (zg (a_c (e_v rfl) (a_c (e_v rfl) (a_c (qm (e_v rfl) e_k rfl) a_n))) c5)))))),r5⟩
end Pg
namespace Pg
open PySem L2 F Mt
variable {k:Nat} [Kd k] {d l r t x y:D}{ts lt rt:List D}{h lh rh i:Nat}{n:Int}{S S0 S1:Sto}{ev e:Ev}{P Q:D->Prop}{a b new:List D}
theorem p1{xh yh h g:Nat}(p:Top xh yh h)(q1:xh<=yh+1)(q2:yh<=xh+1)(g1:xh<=g)(g2:g<=xh+1):(g<=yh+2/\yh<=g+2)/\∀z,Hi g yh z->(g<=yh+1->yh<=g+1->Top g yh z)->h<=z/\z<=h+1:=by
 obtain⟨p1,p2,p3⟩:=p;refine⟨⟨by omega,by omega⟩,fun z hz ht=>?_⟩;by_cases hb:g<=yh+1/\yh<=g+1
 · obtain⟨t1,t2,t3⟩:=ht hb.1 hb.2;omega
 · have:=hz.l;have:=hz.m g (z16 _) (by omega);omega
theorem zy6{p:Nat}(h:p<=a.length):(a++t::b).take p++x::(a++t::b).drop p=(a.take p++x::a.drop p)++t::b:=by rw[zp9 h,zq4 h];simp
theorem zy5{q:Nat}:(a++t::b).take (a.length+1+q)++x::(a++t::b).drop (a.length+1+q)=a++t::(b.take q++x::b.drop q):=by rw[zp8,zq2];simp
theorem zhv(p:Nat):(ts.take p++x::ts.drop p).length=ts.length+1:=by simp only[z13,List.length_cons,z2d,z2s];omega
theorem zc9:∀(f:Nat) {d:D}{ts:List D}{h p:Nat}{n:Int}{S:Sto}{P:D->Prop},S[i]? = some (wd (kg k) n)->Mk k d ts h->ts.length<2000->p<=ts.length->Thing k x->All P d->h<f ->
   ∃d' h' new S',zcw f [.obj i,d,.int p,x] S=some (d',S')/\Res k i S n P (ts.take p++x::ts.drop p) d' h' new S'/\(h<=h'/\h'<=h+1)/\new.length<=9*h+1
 |0,_,_,_,_,_,_,_,_,_,_,_,_,_,hf=>absurd hf (z49 _)
 | f+1,d,ts,h,p,n,S,P,hw,m,hl,hp,ht,al,hf=>by
   rcases zil m with⟨rfl,rfl,rfl⟩ | ⟨⟨xs,ed⟩,u0,r0,e0⟩
   · obtain⟨d1,S1,g1,c1,r1,t1⟩:=kh hw (.non (k:=k)) (.non (k:=k)) ht (z4f 0) (z4f 0) (by decide) (All.non (P:=P)) .non;have e:g1=1:=by have:=t1.e;omega
     subst e;exact⟨d1,1,_,S1,jz rfl (qv (qd (q8 (e_2 (e_v rfl) e_k rfl)) (zq (qs (e_v rfl) (qp hw) (xb _ _) (a_c e_k (a_c (e_v rfl) (a_c e_k a_n))) c1)))),by simpa using r1,⟨z2x _,z16 _⟩,z16 _⟩
   · obtain⟨z,v,y,xt,yt,xh,yh,w1,S1,c1,q⟩:=ku m (zar m (by rw[e0];simp)) hw al;have e1:=q.hts;subst e1;have c2:=ja q.mx S1;have hx:=q.hh.l;have hy:=q.hh.r;have hi:zd6 d .non=some (.bl false):=by rw[ed];rfl
     simp only[z13,List.length_cons]at hl hp;by_cases h1:p<=xt.length
     · obtain⟨d1,g,w2,S2,c3,r2,⟨b1,b2⟩,b3⟩:=zc9 f q.wt.at_ q.mx (by omega) h1 ht q.ax (by omega);have r2:=r2.after q.wt;obtain⟨⟨k1,k2⟩,k3⟩:=p1 q.hh q.h1 q.h2 b1 b2;obtain⟨d2,g2,w3,S3,c4,r3,b5,b6,b7⟩:=xp r2.wt.at_ r2.mm q.my q.ht k1 k2 (by rw[zhv];omega) r2.all q.ay.app;have r3:=r3.after r2.wt;exact⟨d2,g2,_,S3,jz rfl (ze (zm (q8 (e_2 (e_v rfl) e_k hi))) (ze (zj (zg (a_c (e_v rfl) (a_c (e_v rfl) a_n)) c1)) (ze (zj (zg (a_c (qm (e_v rfl) e_k rfl) a_n) c2)) (qv (qd (q8 (e_2 (e_v rfl) (e_v rfl) (zuf h1))) (zq (zg (a_c (e_v rfl) (a_c (zg (a_c (e_v rfl) (a_c (qm (e_v rfl) e_k rfl) (a_c (e_v rfl) (a_c (e_v rfl) a_n)))) c3) (a_c (qm (e_v rfl) e_k rfl) (a_c (qm (e_v rfl) e_k rfl) a_n)))) c4))))))),by rw[zy6 h1];exact r3,k3 _ b5 b6,zpm q.hh q.few b3 b7⟩
     · obtain⟨z',e⟩:∃z,p=xt.length+1+z:=⟨p-xt.length-1,by omega⟩
       obtain⟨d1,g,w2,S2,c3,r2,⟨b1,b2⟩,b3⟩:=zc9 f (p:=z') q.wt.at_ q.my (by omega) (by omega) ht q.ay (by omega);have r2:=r2.after q.wt;obtain⟨⟨k1,k2⟩,k3⟩:=p1 q.hh.sym q.h2 q.h1 b1 b2;obtain⟨d2,g2,w3,S3,c4,r3,b5,b6,b7⟩:=xp r2.wt.at_ q.mx r2.mm q.ht k2 k1 (by rw[zhv];omega) q.ax.app r2.all;have r3:=r3.after r2.wt;exact⟨d2,g2,_,S3,jz rfl (ze (zm (q8 (e_2 (e_v rfl) e_k hi))) (ze (zj (zg (a_c (e_v rfl) (a_c (e_v rfl) a_n)) c1)) (ze (zj (zg (a_c (qm (e_v rfl) e_k rfl) a_n) c2)) (ze (zm (q8 (e_2 (e_v rfl) (e_v rfl) (z01 h1)))) (zq (zg (a_c (e_v rfl) (a_c (qm (e_v rfl) e_k rfl) (a_c (qm (e_v rfl) e_k rfl) (a_c (zg (a_c (e_v rfl) (a_c (qm (e_v rfl) e_k rfl) (a_c (zgw (e_v rfl) (e_v rfl) e) (a_c (e_v rfl) a_n)))) c3) a_n)))) c4)))))),by rw[e,zy5];exact r3,k3 _ b5.sym fun u v=>(b6 v u).sym,zqv q.hh q.few b3 b7⟩
theorem Top.eq{a b h h':Nat}(p:Top a b h)(q:Top a b h'):h'=h:=by obtain⟨p1,p2,p3⟩:=p;obtain⟨q1,q2,q3⟩:=q;omega
theorem zyz{p:Nat}(h:p<a.length):(a++t::b).set p x=a.set p x++t::b:=List.set_append_left _ _ h
theorem zyy:(a++t::b).set a.length x=a++x::b:=by rw[List.set_append_right _ _ (z16 _),Nat.sub_self];rfl
theorem zyx{q:Nat}:(a++t::b).set (a.length+1+q) x=a++t::b.set q x:=by rw[List.set_append_right _ _ (by omega),show a.length+1+q-a.length=q+1 by omega];rfl
theorem zw7{a b:List D}{xh yh h:Nat}(p:Top xh yh h)(h1:a.length<=2)(h2:b.length<=3*xh):(a++b++[t]).length<=3*h:=by have:=p.l;simp only[z13,List.length_cons,List.length_nil];omega
theorem zw6{a:List D}{h:Nat}(hh:0<h)(h1:a.length<=2):(a++[t]).length<=3*h:=by simp only[z13,List.length_cons,List.length_nil];omega
theorem zfh:∀(f:Nat) {d:D}{ts:List D}{h p:Nat}{n:Int}{S:Sto}{P:D->Prop},S[i]? = some (wd (kg k) n)->Mk k d ts h->ts.length<=2000->p<ts.length->Thing k x->All P d->h<=f ->
   ∃d' new S',zfi f [.obj i,d,.int p,x] S=some (d',S')/\Res k i S n P (ts.set p x) d' h new S'/\new.length<=3*h
 |0,d,ts,h,p,n,S,P,hw,m,hl,hp,ht,al,hf=>absurd (zar m (z28.mp (by omega))) (z5y.mpr hf)
 | f+1,d,ts,h,p,n,S,P,hw,m,hl,hp,ht,al,hf=>by
   have h0:=zar m (z28.mp (by omega));obtain⟨z,v,y,xt,yt,xh,yh,w1,S1,c1,q⟩:=ku m h0 hw al;have e1:=q.hts;subst e1;have c2:=ja q.mx S1;have hx:=q.hh.l;have hy:=q.hh.r;simp only[z13,List.length_cons]at hl hp;by_cases h1:p<xt.length
   · obtain⟨d1,w2,S2,c3,r2,b3⟩:=zfh f q.wt.at_ q.mx (by omega) h1 ht q.ax (by omega);have r2:=r2.after q.wt;obtain⟨d2,S3,g2,c4,r3,t3⟩:=kh r2.wt.at_ r2.mm q.my q.ht q.h1 q.h2 (by rw[z3b];omega) r2.all q.ay.app;have r3:=r3.after r2.wt;have eg:=q.hh.eq t3;subst eg;exact⟨d2,_,S3,jz rfl (ze (zj (zg (a_c (e_v rfl) (a_c (e_v rfl) a_n)) c1)) (ze (zj (zg (a_c (qm (e_v rfl) e_k rfl) a_n) c2)) (qv (qd (q8 (e_2 (e_v rfl) (e_v rfl) (zwl h1))) (zq (qs (e_v rfl) (qp q.wt.at_) (xb _ _) (a_c (zg (a_c (e_v rfl) (a_c (qm (e_v rfl) e_k rfl) (a_c (e_v rfl) (a_c (e_v rfl) a_n)))) c3) (a_c (qm (e_v rfl) e_k rfl) (a_c (qm (e_v rfl) e_k rfl) a_n))) c4)))))),by rw[zyz h1];exact r3,zw7 q.hh q.few b3⟩
   · by_cases h2:xt.length<p
     · obtain⟨z',e⟩:∃z,p=xt.length+1+z:=⟨p-xt.length-1,by omega⟩
       obtain⟨d1,w2,S2,c3,r2,b3⟩:=zfh f (p:=z') q.wt.at_ q.my (by omega) (by omega) ht q.ay (by omega);have r2:=r2.after q.wt;obtain⟨d2,S3,g2,c4,r3,t3⟩:=kh r2.wt.at_ q.mx r2.mm q.ht q.h1 q.h2 (by rw[z3b];omega) q.ax.app r2.all;have r3:=r3.after r2.wt;have eg:=q.hh.eq t3;subst eg;exact⟨d2,_,S3,jz rfl (ze (zj (zg (a_c (e_v rfl) (a_c (e_v rfl) a_n)) c1)) (ze (zj (zg (a_c (qm (e_v rfl) e_k rfl) a_n) c2)) (ze (zm (q8 (e_2 (e_v rfl) (e_v rfl) (zta h1)))) (qv (qd (q8 (e_2 (e_v rfl) (e_v rfl) (zz2 h2))) (zq (qs (e_v rfl) (qp q.wt.at_) (xb _ _) (a_c (qm (e_v rfl) e_k rfl) (a_c (qm (e_v rfl) e_k rfl) (a_c (zg (a_c (e_v rfl) (a_c (qm (e_v rfl) e_k rfl) (a_c (zgw (e_v rfl) (e_v rfl) e) (a_c (e_v rfl) a_n)))) c3) a_n))) c4))))))),by rw[e,zyx];exact r3,zw7 q.hh.sym q.few b3⟩
     · have e:p=xt.length:=by omega
       obtain⟨d2,S3,g2,c4,r3,t3⟩:=kh q.wt.at_ q.mx q.my ht q.h1 q.h2 (by omega) q.ax q.ay;have r3:=r3.after q.wt;have eg:=q.hh.eq t3;subst eg;exact⟨d2,_,S3,jz rfl (ze (zj (zg (a_c (e_v rfl) (a_c (e_v rfl) a_n)) c1)) (ze (zj (zg (a_c (qm (e_v rfl) e_k rfl) a_n) c2)) (ze (zm (q8 (e_2 (e_v rfl) (e_v rfl) (zta h1)))) (ze (zm (q8 (e_2 (e_v rfl) (e_v rfl) (zyg h2)))) (zq (qs (e_v rfl) (qp q.wt.at_) (xb _ _) (a_c (qm (e_v rfl) e_k rfl) (a_c (e_v rfl) (a_c (qm (e_v rfl) e_k rfl) a_n))) c4)))))),by rw[e,zyy];exact r3,zw6 h0 q.few⟩
theorem zxp{p m:Nat}{f g w:E}(hp:p<m)(h0:f ev S=some (.int (0:Nat),S))(h1:g ev S=some (.int p,S))(h2:w ev S=some (.int m,S)):zb3 zco zdb f g w ev S=some (.bl true,S):=by simp only[zb3,h0,h1,h2,Option.bind_some,zuf (z2x p),zwl hp,Option.map_some]
theorem zbq{p m:Nat}(hp:p<m)(S:Sto):jl [.int p,.int m] S=some (.non,S):=zkl rfl (zm (zt8 (q8 (zxp hp e_k (e_v rfl) (e_v rfl)))))
theorem zxx{p:Nat}(m:Mk k d ts h)(hl:ts.length<=2000)(hp:ts[p]? = some x)(S:Sto):zyi [d,.int p] S=some (x,S) :=
 jz rfl (ze (qw (zg (a_c (e_v rfl) (a_c (zg (a_c (e_v rfl) a_n) (ja m S)) a_n)) (zbq (z15.mp hp).1 S))) (zq (zg (a_c (e_v rfl) (a_c e_k (a_c (e_v rfl) a_n))) (yx 40 (b:=false) m (z2h (h15 m hl) (by decide)) hp S))))
theorem zua(x:Nat):zz (.int x) (.int 1)=some (.int (x+1:Nat)):=rfl
theorem zvp{p:Nat}(hw:S[i]? = some (wd (kg k) n))(m:Mk k d ts h)(hl:ts.length<2000)(hp:p<=ts.length)(ht:Thing k x)(al:All P d) :
   ∃d' h' new S',zmw [.obj i,d,.int p,x] S=some (d',S')/\Res k i S n P (ts.take p++x::ts.drop p) d' h' new S'/\new.length<=9*h+1:=by
 have h1:=h15 m (z3u hl);obtain⟨d',h',new,S1,c,r,_,b⟩:=zc9 40 hw m hl hp ht al (by omega);exact⟨d',h',new,S1,jz rfl (ze (qw (zg (a_c (e_v rfl) (a_c (e_2 (zg (a_c (e_v rfl) a_n) (ja m S)) e_k (zua _)) a_n)) (zbq (Nat.lt_succ_of_le hp) S))) (ze (qw (zg (a_c (e_2 (zg (a_c (e_v rfl) a_n) (ja m S)) e_k (zua _)) a_n) (ze5 hl S))) (zq (zg (a_c (e_v rfl) (a_c (e_v rfl) (a_c (e_v rfl) (a_c (e_v rfl) a_n)))) c)))),r,b⟩
theorem zv8{p:Nat}(hw:S[i]? = some (wd (kg k) n))(m:Mk k d ts h)(hl:ts.length<=2000)(hp:p<ts.length)(al:All P d) :
   ∃d' h' new S',ztk [.obj i,d,.int p] S=some (d',S')/\Res k i S n P (ts.eraseIdx p) d' h' new S'/\new.length<=9*h+21:=by
 have h1:=h15 m hl;obtain⟨d',h',new,S1,c,r,_,b⟩:=zap 40 hw m hl hp al (by omega);exact⟨d',h',new,S1,jz rfl (ze (qw (zg (a_c (e_v rfl) (a_c (zg (a_c (e_v rfl) a_n) (ja m S)) a_n)) (zbq hp S))) (zq (zg (a_c (e_v rfl) (a_c (e_v rfl) (a_c (e_v rfl) a_n))) c))),r,b⟩
theorem zjt{p:Nat}(hw:S[i]? = some (wd (kg k) n))(m:Mk k d ts h)(hl:ts.length<=2000)(hp:p<ts.length)(ht:Thing k x)(al:All P d) :
   ∃d' new S',zdo [.obj i,d,.int p,x] S=some (d',S')/\Res k i S n P (ts.set p x) d' h new S'/\new.length<=3*h:=by
 have h1:=h15 m hl;obtain⟨d',new,S1,c,r,b⟩:=zfh 40 hw m hl hp ht al (by omega);exact⟨d',new,S1,jz rfl (ze (qw (zg (a_c (e_v rfl) (a_c (zg (a_c (e_v rfl) a_n) (ja m S)) a_n)) (zbq hp S))) (zq (zg (a_c (e_v rfl) (a_c (e_v rfl) (a_c (e_v rfl) (a_c (e_v rfl) a_n)))) c))),r,b⟩
theorem zxm{p:Nat}(hw:S[i]? = some (wd (kg k) n))(m:Mk k d ts h)(hl:ts.length<=2000)(hp:p<=ts.length)(al:All P d) :
   ∃x y xh yh new S',ztl [.obj i,d,.int p] S=some (.tup [x,y],S')/\Cut k i S n P (ts.take p) (ts.drop p) h x y xh yh new S':=by
 have h1:=h15 m hl;obtain⟨x,y,xh,yh,new,S1,c,r⟩:=kl 40 hw m hl hp al (by omega);exact⟨x,y,xh,yh,new,S1,jz rfl (ze (qw (zg (a_c (e_v rfl) (a_c (e_2 (zg (a_c (e_v rfl) a_n) (ja m S)) e_k (zua _)) a_n)) (zbq (Nat.lt_succ_of_le hp) S))) (zq (zg (a_c (e_v rfl) (a_c (e_v rfl) (a_c (e_v rfl) a_n))) c))),r⟩
theorem zka(hw:S[i]? = some (wd (kg k) n))(ml:Mk k l lt lh)(mr:Mk k r rt rh)(hn:lt.length+rt.length<=2000)(al:All P l)(ar:All P r):∃d h new S',zmx [.obj i,l,r] S=some (d,S')/\Res k i S n P (lt++rt) d h new S'/\new.length<=9*rh+9*max lh rh+10:=by obtain⟨d,h,new,S1,c,r,b⟩:=zmh hw ml mr hn al ar;exact⟨d,h,new,S1,jz rfl (ze (qw (zg (a_c (e_2 (zg (a_c (e_v rfl) a_n) (ja ml S)) (zg (a_c (e_v rfl) a_n) (ja mr S)) (add_int _ _)) a_n) (ze5 hn S))) (zq (zg (a_c (e_v rfl) (a_c (e_v rfl) (a_c (e_v rfl) a_n))) c))),r,b⟩
theorem zgd{q j:Nat}{v:E}{us:List D}(he:ev[q]? = some (some (.obj j)))(hj:S[j]? = some (.lst us))(hv:v ev S=some (x,S))(hl:us.length<16777216):yk (eV q) v ev S=some (.nx ev,S.set j (.lst (us++[x]))):=by have hz:sizeLine=16777216:=z3a;simp only[yk,e_v he,Option.bind_some,hj,hv,hz,z2v hl]
theorem zdn:∀(f:Nat) {d:D}{ts:List D}{h j:Nat}{b:Bool}{acc:List D}{S:Sto},Mk k d ts h->h<f->S[j]? = some (.lst acc)->acc.length+ts.length<16777216->zcx f [d,.bl b,.obj j] S=some (.non,S.set j (.lst (acc++ord b ts)))
 |0,_,_,_,_,_,_,_,_,hf,_,_=>absurd hf (z49 _)
 | f+1,d,ts,h,j,b,acc,S,m,hf,hj,hl=>by
   rcases zil m with⟨rfl,rfl,rfl⟩ | ⟨⟨xs,ed⟩,u0,r0,e0⟩
   · rw[show ord b ([]:List D)=[] by cases b<;>rfl,z2y];have:S.set j (.lst acc)=S:=by obtain⟨hj',ej⟩:=z15.mp hj;rw[<-ej];exact List.set_getElem_self hj'
     rw[this];exact jz rfl (qv (qd (q8 (e_2 (e_v rfl) e_k rfl)) rfl))
   · obtain⟨u,t,y,c,xt,yt,xh,yh,c1,s⟩:=zli m (zar m (by rw[e0];simp)) b S;have hi:zd6 d .non=some (.bl false):=by rw[ed];rfl
     have hu:=s.hu;have hlen:ts.length=xt.length+(yt.length+1):=by have:=z30 List.length hu;rw[kv,z13,List.length_cons,kv,kv]at this;exact this
     have hx:=s.hx;have hy:=s.hy;have lx:=kv c xt;have ly:=kv c yt;have c2:=zdn f (b:=c) (S:=S) s.mx (by omega) hj (by omega);have j2:(S.set j (.lst (acc++ord c xt)))[j]? = some (.lst (acc++ord c xt)):=zlh hj;have j3:((S.set j (.lst (acc++ord c xt))).set j (.lst (acc++ord c xt++[t])))[j]? = some (.lst (acc++ord c xt++[t])):=zlh j2;have c3:=zdn f (b:=c) s.my (by omega) j3 (by simp only[z13,List.length_cons,List.length_nil];omega);have e5:((S.set j (.lst (acc++ord c xt))).set j (.lst (acc++ord c xt++[t]))).set j (.lst (acc++ord c xt++[t]++ord c yt))=S.set j (.lst (acc++ord b ts)):=by rw[List.set_set,List.set_set,show acc++ord c xt++[t]++ord c yt=acc++ord b ts by rw[hu];simp]
     rw[e5]at c3;exact zkl rfl (ze (zm (q8 (e_2 (e_v rfl) e_k hi))) (ze (zj (zg (a_c (e_v rfl) (a_c (e_v rfl) a_n)) c1)) (ze (qw (zg (a_c (qm (e_v rfl) e_k rfl) (a_c (qm (e_v rfl) e_k rfl) (a_c (e_v rfl) a_n))) c2)) (ze (zgd rfl j2 (qm (e_v rfl) e_k rfl) (by simp only[z13];omega)) (qw (zg (a_c (qm (e_v rfl) e_k rfl) (a_c (qm (e_v rfl) e_k rfl) (a_c (e_v rfl) a_n))) c3))))))
def SB(S:Sto):Prop:=∀m∈S,zie S.length m=true
theorem zhc{m:Nat}(hx:Thing k x):bnd m x=true:=by
 cases zoc hx with
 |non=>rfl
 |int i=>rfl
 |str z=>rfl
 |pair a b=>rfl
theorem zah{m:Nat}:∀{ts:List D},(∀x∈ts,Thing k x)->bndL m ts=true
 | [],_=>rfl
 | t::ts,h=>by unfold bndL;rw[zhc (h t (z2z ..)),zah fun x hx=>h x (z2e _ hx)];rfl
theorem zun(m:Nat)(n:Int):zie m (wd (kg k) n)=true:=by
 unfold wd zie kg;by_cases hk:k=0
 · simp[hk,bndL,bnd]
 · simp[hk,bndL,bnd]
theorem zf9(m:Mk k d ts h)(hl:ts.length<=2000)(hb:SB S):zaa [d] S=some (.lst ts,S):=by
 have h1:=h15 m hl;have c1:=zdn 40 (b:=false) (S:=S++[.lst []]) (j:=S.length) (acc:=[]) m (by omega) (zmg S _) (by simp only[List.length_nil];omega);have e1:(S++[MO.lst []]).set S.length (.lst ([]++ord false ts))=S++[.lst ts]:=by simp[ord]
 rw[e1]at c1;have c2:zv 2 1 zdz [d] S=some (.obj S.length,S++[.lst ts]):=jz rfl (ze (zj (zne a_n (z2x _))) (ze (qw (zg (a_c (e_v rfl) (a_c e_k (a_c (e_v rfl) a_n))) c1)) (zq (e_v rfl))));have e2:(S++[MO.lst ts]).take S.length=S:=List.take_left;have e3:S.all (zie S.length)=true:=z2p.mpr hb;unfold zaa frz;rw[c2];simp only[Option.bind_some,e2,e3,z37,z3n,z36,zmg,zah m.things]
end Pg
namespace Pg
open PySem L2 F Mt
variable {k:Nat} [Kd k] {d l r t x y:D}{ts lt rt:List D}{h lh rh i:Nat}{n:Int}{S S0 S1:Sto}{ev e:Ev}{P Q:D->Prop}{a b new:List D}
theorem zij(m:Mk k d ts h):All (fun _=>True) d:=by
 induction m with
 |non=>exact .non
 |node _ _ _ _ _ il ir=>exact .node trivial il ir
theorem zvh(h:∀z∈lt,Thing k z):∀z∈lt.reverse,Thing k z:=fun z hz=>h z (z4z.mp hz)
theorem sx(m d v:Nat):HT.sIx m d (some (v:Int))=min v m:=by show(if(v:Int)<0 then ((v:Int)+(m:Int)).toNat else min (v:Int).toNat m)=min v m;rw[z2w (by omega),Int.toNat_natCast]
theorem zk9(e:Nat):zwd (.lst ts) none (some (e:Int))=some (.lst (ts.take e)):=by show some (D.lst ((ts.drop 0).take (HT.sIx ts.length ts.length (some (e:Int))-0)))=_;rw[sx,List.drop_zero,Nat.sub_zero,<-List.take_take,z40]
theorem zc5{s:Nat}(hs:s<=ts.length):zwd (.lst ts) (some (s:Int)) none=some (.lst (ts.drop s)):=by show some (D.lst ((ts.drop (HT.sIx ts.length 0 (some (s:Int)))).take (ts.length-HT.sIx ts.length 0 (some (s:Int)))))=_;rw[sx,z5a hs,List.take_of_length_le (by rw[z2s];omega)]
theorem zu5{s e:Nat}(hs:s<=e)(he:e<=ts.length):zwd (.lst ts) (some (s:Int)) (some (e:Int))=some (.lst ((ts.take e).drop s)):=by show some (D.lst ((ts.drop (HT.sIx ts.length 0 (some (s:Int)))).take (HT.sIx ts.length ts.length (some (e:Int))-HT.sIx ts.length 0 (some (s:Int)))))=_;rw[sx,sx,z5a (z2h hs he),z5a he,List.drop_take]
theorem zfc(m:Int)(c:Nat):∃e:Nat,e<=c/\jq (.int m) (.int ((c:Int)+1))=some (.int e):=by have x0:=z3c m (show(c:Int)+1≠0 by omega);have x1:=z25 m (show(0:Int)<(c:Int)+1 by omega);exact⟨(m%((c:Int)+1)).toNat,by omega,by rw[zbe (by omega),show(((m%((c:Int)+1)).toNat:Nat):Int)=m%((c:Int)+1) by omega]⟩
theorem zca(m:Int){c:Nat}(hc:0<c):∃e:Nat,e<c/\jq (.int m) (.int (c:Int))=some (.int e):=by have x0:=z3c m (show(c:Int)≠0 by omega);have x1:=z25 m (show(0:Int)<(c:Int) by omega);exact⟨(m%(c:Int)).toNat,by omega,by rw[zbe (by omega),show(((m%(c:Int)).toNat:Nat):Int)=m%(c:Int) by omega]⟩
theorem znf{fr:List Nat}{f g:E}{c:Int}{S2:Sto}(h:f ev S=some (.int c,S1))(h0:0<=c)(hc:c<=1000000)(hl:zgy g (fr.map (zqy ev)) (jb 0 c.toNat) S1=some (ts,S2)):zev fr f g ev S=some (.lst ts,S2):=by
 have hz:sizeLine=16777216:=z3a;have cnd:-(2^62)<=c/\c<2^62/\c<=(sizeLine:Int):=by omega
 simp only[zev,h,Option.bind_some,cnd,and_self,z37,hl,Option.map_some]
theorem rng{c:Nat}(h:c<=10000):∀x∈jb 0 c,∃i:Int,x=.int i/\0<=i/\i<10000:=fun x hx=>by unfold jb at hx;obtain⟨j,hj,rfl⟩:=List.mem_map.mp hx;have:=List.mem_range.mp hj;exact⟨_,rfl,by omega,by omega⟩
theorem zhu(c:Nat):(jb 0 c).length=c:=by simp[jb]
end Pg
namespace Pg
open PySem L2 F Mt
variable {k:Nat} [Kd k] {d l r t x y:D}{ts us lt rt:List D}{h lh rh i:Nat}{n:Int}{S S0 S1:Sto}{ev e:Ev}{P Q:D->Prop}
theorem zvb(ns:List Int){q:Int}(h0:0<=q)(h1:q<ns.length):∃v:Int,atI (ns.map D.int) q=some (.int v):=by
 have hi:q.toNat<ns.length:=by omega
 have e2:(ns.map D.int)[q.toNat]? = some (.int ns[q.toNat]):=by rw[z3l,z19 hi];rfl
 have e3:=zd3 e2;rw[show((q.toNat:Nat):Int)=q by omega]at e3;exact⟨_,e3⟩
theorem p30:zo3 (.int 10) (.int 30)=some (.int (10^30)):=by
 have:zx8 10 30=some (10^30):=by unfold zx8;rw[z2v (by decide)];rfl
 simp only[zo3,F.opI,this];rfl
theorem zag(ns:List Int)(hn:ns.length<=63){q:Int}(h0:0<=q)(h1:q<=1000000):∃m:Int,0<=m/\m<999999937/\∀S,qb [.lst (ns.map D.int),.int q] S=some (.int m,S):=by
 have len:∀S:Sto,zas S [.lst (ns.map D.int)]=some (.int (ns.length:Int)):=fun S=>by simp[zas]
 have first:∀(S:Sto),qo 2 (e2 zz (e2 ye (e2 ye (eV 1) (eV 1)) (eK (.int 7919))) (eK (.int 17))) [some (.lst (ns.map D.int)),some (.int q),none] S=some (.nx [some (.lst (ns.map D.int)),some (.int q),some (.int (q*q*7919+17))],S):=fun S=>
   zj (e_2 (e_2 (e_2 (e_v rfl) (e_v rfl) (zl8 (by omega))) e_k (zi7 (by decide))) e_k (add_int _ _))
 have last:∀(c:Int) (S:Sto),qx (e2 jq (e2 ye (e2 jq (e2 zz (e2 ye (eV 2) (eK (.int 48271))) (e2 ye (eV 1) (eK (.int 69621)))) (eK (.int 2147483647))) (e2 zz (e2 jq (eV 2) (eK (.int 65521))) (eK (.int 3)))) (eK (.int 999999937))) [some (.lst (ns.map D.int)),some (.int q),some (.int c)] S=some (.rt (.int ((c*48271+q*69621)%2147483647*(c%65521+3)%999999937)),S):=fun c S=>by have y0:=z3c (c*48271+q*69621) (show(2147483647:Int)≠0 by decide);have y1:=z25 (c*48271+q*69621) (show(0:Int)<2147483647 by decide);exact zq (e_2 (e_2 (e_2 (e_2 (e_2 (e_v rfl) e_k (zi7 (by decide))) (e_2 (e_v rfl) e_k (zi7 (by decide))) (add_int _ _)) e_k (zbe (by decide))) (e_2 (e_2 (e_v rfl) e_k (zbe (by decide))) e_k (add_int _ _)) (zl8 (by omega))) e_k (zbe (by decide)))
 by_cases z:0<(ns.length:Int)
 · have x0:=z3c q (show(ns.length:Int)≠0 by omega);have x1:=z25 q z;obtain⟨v,hv⟩:=zvb ns x0 x1;refine⟨_,z3c _ (by decide),z25 _ (by decide),fun S=>jz rfl (ze (first S) (ze (qd (q8 (e_2 (e_a (a_c (e_v rfl) a_n) (len _)) e_k (show zfa (.int (ns.length:Int)) (.int 0)=some (.bl true) by simp[zfa,opIB];omega)))
     (zj (e_2 (e_2 (qm (e_v rfl) (e_2 (e_v rfl) (e_a (a_c (e_v rfl) a_n) (len _)) (zbe z)) hv) (e_2 e_k e_k p30) (zbe (by decide))) (e_2 (e_2 (e_v rfl) (e_a (a_c (e_v rfl) a_n) (len _)) (zh5 ⟨z,by omega⟩)) e_k (zi7 (by decide))) (add_int _ _)))) (last _ S)))⟩
 · exact⟨_,z3c _ (by decide),z25 _ (by decide),fun S=>jz rfl (ze (first S) (ze (zm (q8 (e_2 (e_a (a_c (e_v rfl) a_n) (len _)) e_k (show zfa (.int (ns.length:Int)) (.int 0)=some (.bl false) from(by show some (D.bl (decide ((0:Int)<(ns.length:Int))))=_;rw[z2b z]))))) (last _ S)))⟩
theorem zhq{i:Nat}{f:E}{b:C}{n:Int}{o:Out}{S2:Sto}(h:f ev S=some (.int n,S1))(h0:0<=n)(h1:n<1000000)(q:zbh i b (jb 0 n.toNat) ev S1=some (o,S2)):zjx i f b ev S=some (o,S2):=by
 have cnd:-(2^62)<=n/\n<2^62:=by omega
 simp only[zjx,h,Option.bind_some,z2v cnd,q]
theorem zrv{i:Nat}{f:E}{b:C}{ds:List D}{o:Out}{S2:Sto}(h:f ev S=some (.lst ds,S1))(q:zbh i b ds ev S1=some (o,S2)):zlk i f b ev S=some (o,S2):=by simp only[zlk,h,Option.bind_some,q]
theorem zbg{i:Nat}{b:C}{d:D}{ds:List D}{e1:Ev}{o:Out}{S2:Sto}(h:b (ev.set i (some d)) S=some (.nx e1,S1))(q:zbh i b ds e1 S1=some (o,S2)):zbh i b (d::ds) ev S=some (o,S2):=by unfold zbh;rw[h];exact q
theorem zk0{i j:Nat}{f:E}{x y:D}(h:f ev S=some (.tup [x,y],S1)):zud [i,j] f ev S=some (.nx ((ev.set i (some x)).set j (some y)),S1):=by simp[zud,h,zaj]
theorem zmz{g:G}{ds us:List D}{J:Sto}(hS:SB S)(hg:g ds S=some (.lst us,S++J))(hb:bndL S.length us=true):frz g ds S=some (.lst us,S):=by unfold frz;rw[hg];have e1:(S++J).take S.length=S:=List.take_left;have e2:S.all (zie S.length)=true:=z2p.mpr hS;simp only[Option.bind_some,e1,e2,z37,bnd,hb]
theorem zb9(lo:Int)(m:Nat):jb lo (m+1)=.int lo::jb (lo+1) m:=by
 unfold jb;rw[List.range_succ_eq_map,z2o,List.map_map];congr 1
 · simp
 · refine List.map_congr_left fun z _=>?_;simp;omega
end Pg
namespace Pg
open PySem L2 F Mt
variable {k:Nat}{d l r t:D}{ts lt rt:List D}{h lh rh:Nat}{S S1 S2:Sto}{ev e:Ev}
theorem zgi{u:B}{a b:R}(h:u ev S=some (true,S1)):rIf u a b ev S=a ev S1:=by simp[rIf,h]
theorem zqd{u:B}{a b:R}(h:u ev S=some (false,S1)):rIf u a b ev S=b ev S1:=by simp[rIf,h]
theorem zsj{c:C}{q:R}(h:c ev S=some (.nx e,S1)):zvj c q ev S=q e S1:=by simp[zvj,h]
theorem zy3{a b:R}{x:Str×Sto}(h:a ev S=some x):rOr a b ev S=some x:=by simp[rOr,h]
theorem zy2{a b:R}(h:a ev S=none):rOr a b ev S=b ev S:=by simp[rOr,h]
theorem zqe{g:GR}{a:As}{ds:List D}(h:a ev S=some (ds,S1)):zls g a ev S=g ds S1:=by simp[zls,h]
theorem zc7{c m:Str}{g:GR}{f:E}{a:As}{i:Nat}{fs:List (Str×D)}{ds:List D}(h:f ev S=some (.obj i,S1))(hi:ki c S1 (.obj i)=some (i,fs))(hm:fs.lookup m=none)(ha:a ev S1=some (ds,S2)):zc8 c m g f a ev S=g (.obj i::ds) S2:=by simp[zc8,h,hi,hm,ha]
theorem zlr{c:Str}{a:As}{ds:List D}(h:a ev S=some (ds,S1))(hl:ds.length<=16777216):zgj c a ev S=some (c,S1):=by have hz:sizeLine=16777216:=z3a;simp[zgj,h,hz,hl]
theorem zci{N n:Nat}{q:R}{ds:List D}(hl:ds.length=n):zcg N n q ds S=q (ds.map some++List.replicate (N-ds.length) none) S:=by simp[zcg,hl]
theorem zts{m:Nat}(h:m<10000):z03 (.int m)=some (.str (toString (m:Int)))/\(Str.ofString (toString (m:Int))).length<=20:=by
 have hb:(m:Int).natAbs<2^19:=by simp;omega
 have hlog:(m:Int).natAbs.log2<19:=by
   by_cases h0:(m:Int).natAbs=0
   · rw[h0];decide
   · exact(Nat.log2_lt h0).mpr hb
 refine⟨?_,?_⟩
 · show(if(m:Int).natAbs.log2<1920 then some (D.str (toString (m:Int)))else none)=_;rw[z2v (by omega)]
 · have:=int_text_length_le (a:=(m:Int)) (k:=19) (by decide) hlog;rw[ofString_length];omega
theorem zk1{c:C}{q:R}{f:Str->Option (Option Nat×C)}(h:c ev S=some (.nx e,S1)):zea c q f ev S=some (.nx e,S1):=by simp[zea,h]
theorem zk2{c d:C}{q:R}{f:Str->Option (Option Nat×C)}{cls:Str}{i:Nat}(h:c ev S=none)(hr:q ev S=some (cls,S1))(hf:f cls=some (some i,d))(ha:d (ev.set i (some (.obj S1.length))) (S1++[zh3 cls S1.length])=some (.nx e,S2)):zea c q f ev S=some (.nx (e.set i none),S2):=by unfold zea;rw[h];simp only[hr,Option.bind_some,zn4,hf,ha]
theorem zrt{c d:C}{q:R}{f:Str->Option (Option Nat×C)}{cls:Str}(h:c ev S=none)(hr:q ev S=some (cls,S1))(hf:f cls=some (none,d))(ha:d ev S1=some (.nx e,S2)):zea c q f ev S=some (.nx e,S2):=by unfold zea;rw[h];simp only[hr,Option.bind_some,zn4,hf,ha]
theorem zzv{u:Up}{j m:Nat}{c:Str}{d:D}{b:Bool}(h:S[j]? = some (.xc c m))(q:u.ask c d=some b):zkc u S [.obj j,d]=some (.bl b):=by simp[zkc,h,q]
theorem zq1{f:E}{c n:Str}{i j:Nat}{d:D}(h:f ev S=some (.obj i,S1))(hi:S1[i]? = some (.xc c j))(hj:S1[j]? = some (.xd n d)):zkh c n f ev S=some (d,S1):=by simp[zkh,h,hi,hj]
theorem isx{u:Up}{j:Nat}{c:Str}{d:D}{b:Bool}(h:S[j]? = some (.exc c))(q:u.ask c d=some b):zkc u S [.obj j,d]=some (.bl b):=by simp[zkc,h,q]
theorem ze1{c:B}{b:C}(h:c ev S=some (true,S1)):sIf c zbp b ev S=none:=by simp[sIf,h,zbp]
theorem zd2{N n:Nat}{c:C}{ds:List D}(h:c (ds.map some++List.replicate (N-ds.length) none) S=none):zv N n c ds S=none:=by simp[zv,h]
theorem zbo{a b:C}(h:a ev S=none):zt a b ev S=none:=by simp[zt,h]
theorem zgf{a b:C}(h:a ev S=some (.nx e,S1))(q:b e S1=none):zt a b ev S=none:=by simp[zt,h,q]
theorem zdw{f:E}(h:f ev S=none):xk f ev S=none:=by simp[xk,h]
theorem zbn{f:E}{i:Nat}(h:f ev S=none):qo i f ev S=none:=by simp[qo,h]
theorem zgz{g:G}{a:As}{ds:List D}(h:a ev S=some (ds,S1))(q:g ds S1=none):zk g a ev S=none:=by simp[zk,h,q]
theorem yp{c m:Str}{g:G}{f:E}{a:As}{i:Nat}{fs:List (Str×D)}{ds:List D}(h:f ev S=some (.obj i,S1))(hi:ki c S1 (.obj i)=some (i,fs))(hm:fs.lookup m=none)(ha:a ev S1=some (ds,S2))(q:g (.obj i::ds) S2=none) :
   qc c m g f a ev S=none:=by simp[qc,h,hi,hm,ha,q]
end Pg
namespace Pg
open PySem L2 F Mt
variable {k:Nat} [Kd k] {d l r t x y:D}{ts lt rt:List D}{h lh rh i:Nat}{n:Int}{S S0 S1:Sto}{ev e:Ev}{P Q:D->Prop}{a b c:List D}
theorem zjm{p:Int}{m:Nat}{f g w:E}(hp:¬ (0<=p/\p<m))(h0:f ev S=some (.int 0,S))(h1:g ev S=some (.int p,S))(h2:w ev S=some (.int m,S)):zb3 zco zdb f g w ev S=some (.bl false,S):=by
 by_cases q:(0:Int)<=p
 · have q2:¬ (p<(m:Int)):=fun z=>hp ⟨q,z⟩;simp only[zb3,h0,h1,h2,Option.bind_some,zco,zdb,F.opIB,z2g q,z2b q2,Option.map_some]
 · simp only[zb3,h0,h1,Option.bind_some,zco,F.opIB,z2b q]
abbrev NP:Str:=Str.ofString "NoPlace"
def Ref(g:G)(q:GR)(ds:List D)(c:Str)(S:Sto):Prop:=g ds S=none/\q ds S=some (c,S)
theorem zou{p:Int}{m:Nat}(hp:¬ (0<=p/\p<m))(S:Sto):Ref jl xl [.int p,.int m] NP S:=by refine⟨zd2 (ze1 (z07 (q8 (zjm hp e_k (e_v rfl) (e_v rfl))))),?_⟩;unfold xl;rw[zci (n:=2) rfl];unfold za9;rw[zgi (z07 (q8 (zjm hp e_k (e_v rfl) (e_v rfl))))];exact zlr (a_c e_k a_n) (by simp)
theorem zvq{p:Int}(m:Mk k d ts h)(hp:¬ (0<=p/\p<(ts.length+1:Nat)))(w x:D)(S:Sto):Ref zmw r_put [w,d,.int p,x] NP S:=by obtain⟨c1,c2⟩:=zou hp S;refine⟨zd2 (zbo (zdw (zgz (a_c (e_v rfl) (a_c (e_2 (zg (a_c (e_v rfl) a_n) (ja m S)) e_k (zua _)) a_n)) c1))),?_⟩;unfold r_put;rw[zci (n:=4) rfl];unfold zqc;rw[zqe (a_c (e_v rfl) (a_c (e_2 (zg (a_c (e_v rfl) a_n) (ja m S)) e_k (zua _)) a_n))];exact c2
end Pg
namespace Pg
open PySem L2 F Mt
variable {k:Nat} [Kd k] {d d0 l r t x y:D}{ts us lt rt:List D}{h lh rh i:Nat}{n:Int}{S S0 S1:Sto}{ev e:Ev}{P Q:D->Prop}
instance:Kd 0:=⟨rfl⟩
theorem ziq(i:Int):Thing 0 (.int i):=.inl ⟨i,rfl⟩
theorem zus{z:Str}(hz:z.length<=8):Thing 0 (.str z):=.inr ⟨z,rfl,hz⟩
theorem zps(w c:Int):zak (.int w) (.int c)=some (.bl (decide (w=c))):=by rw[zna];rfl
theorem zzn(w c:Int):zdb (.int w) (.int c)=some (.bl (decide (w<c))):=rfl
theorem z1q(w c:Int):zfa (.int w) (.int c)=some (.bl (decide (c<w))):=rfl
theorem zff{f:E}(h:f ev S=some (.lst ts,S1)):yu (aC f aN) ev S=some (.lst ts,S1):=by simp[yu,aC,aN,h]
theorem zme{f:E}(h:f ev S=some (.obj i,S1))(hi:S1[i]? = some (.lst ts)):yu (aC f aN) ev S=some (.lst ts,S1):=by simp[yu,aC,aN,h,hi]
theorem zmf{f:E}(h:f ev S=some (.lst ts,S1)):zb2 f ev S=some (.lst ts.reverse,S1):=by simp[zb2,h]
def sfs(d:D)(j:Nat):List (Str×D):=[("wood",.obj 0),("held",d),("done",.obj j)]
def shf(d:D)(j:Nat):MO:=.ins "Shelf" (sfs d j)
variable {j:Nat}{dl:List D}{R:Sto}
theorem qg(h:S[i]? = some (shf d j)):ki "Shelf" S (.obj i)=some (i,sfs d j):=by simp[ki,h,shf]
theorem hw1:¬ (("wood":Str)="held"):=by decide +kernel
theorem hw2:¬ (("wood":Str)="done"):=by decide +kernel
theorem hw3:¬ (("held":Str)="done"):=by decide +kernel
theorem hb1:(("held":Str)=="wood")=false:=by decide +kernel
theorem hb2:(("done":Str)=="wood")=false:=by decide +kernel
theorem hb3:(("done":Str)=="held")=false:=by decide +kernel
theorem zr6:(sfs d j).lookup ("wood":Str)=some (.obj 0):=by simp[sfs,List.lookup]
theorem zr9:(sfs d j).lookup ("held":Str)=some d:=by simp[sfs,List.lookup,hb1]
theorem zhs:(sfs d j).lookup ("done":Str)=some (.obj j):=by simp[sfs,List.lookup,hb2,hb3]
theorem zc4{m:Str}(h1:(m=="wood")=false)(h2:(m=="held")=false)(h3:(m=="done")=false):(sfs d j).lookup m=none:=by simp[sfs,List.lookup,h1,h2,h3]
theorem zr8:(sfs d j).lookup ("make":Str)=none:=zc4 (by decide +kernel) (by decide +kernel) (by decide +kernel)
theorem zhr:(sfs d j).lookup ("hold":Str)=none:=zc4 (by decide +kernel) (by decide +kernel) (by decide +kernel)
theorem zu4:(sfs d j).lookup ("out":Str)=none:=zc4 (by decide +kernel) (by decide +kernel) (by decide +kernel)
theorem zr7:(sfs d j).lookup ("swap":Str)=none:=zc4 (by decide +kernel) (by decide +kernel) (by decide +kernel)
theorem zlb:(sfs d j).lookup ("put":Str)=none:=zc4 (by decide +kernel) (by decide +kernel) (by decide +kernel)
theorem zk8:(sfs d j).lookup ("turned":Str)=none:=zc4 (by decide +kernel) (by decide +kernel) (by decide +kernel)
theorem zlc:(sfs d j).lookup ("laid":Str)=none:=zc4 (by decide +kernel) (by decide +kernel) (by decide +kernel)
theorem zu6:(sfs d j).lookup ("cut":Str)=none:=zc4 (by decide +kernel) (by decide +kernel) (by decide +kernel)
theorem zsa:(sfs d j).lookup ("back":Str)=none:=zc4 (by decide +kernel) (by decide +kernel) (by decide +kernel)
theorem zit:(sfs d j).lookup ("deeds":Str)=none:=zc4 (by decide +kernel) (by decide +kernel) (by decide +kernel)
theorem zla:(sfs d j).lookup ("things":Str)=none:=zc4 (by decide +kernel) (by decide +kernel) (by decide +kernel)
theorem zop:zd5 "held" x (sfs d j)=sfs x j:=by simp[sfs,zd5,hw1]
theorem zaz{q:Nat}(he:ev[q]? = some (some (.obj i)))(h:S[i]? = some (shf d j)):yw "Shelf" "held" (eV q) ev S=some (d,S):=zdv (e_v he) (qg h) zr9
theorem zb1{q:Nat}(he:ev[q]? = some (some (.obj i)))(h:S[i]? = some (shf d j)):yw "Shelf" "wood" (eV q) ev S=some (.obj 0,S):=zdv (e_v he) (qg h) zr6
theorem zhp{q:Nat}{v:E}(he:ev[q]? = some (some (.obj i)))(hv:v ev S=some (x,S1))(h:S1[i]? = some (shf d j)):j9 "Shelf" "held" (eV q) v ev S=some (.nx ev,S1.set i (shf x j)):=by
 have hl:(sfs d j).length<1000:=show 3<1000 by decide
 simp only[j9,hv,Option.bind_some,e_v he,qg h,z2v hl,zop];rfl
theorem zs9(h:S[i]? = some (shf d j)):jc [.obj i] S=some (d,S):=jz rfl (zq (zaz rfl h))
theorem zi9{q:Nat}(he:ev[q]? = some (some (.obj i)))(h:S[i]? = some (shf d j)):qc "Shelf" "make" jc (eV q) aN ev S=some (d,S):=qs (e_v he) (qg h) zr8 a_n (zs9 h)
theorem zoa{q:Nat}{us:List D}{g:Nat}(he:ev[q]? = some (some (.obj i)))(hs:S[i]? = some (shf d j))(m:Mk 0 d us g)(hl:us.length<=2000)(sb:SB S):qc "Shelf" "things" ke (eV q) aN ev S=some (.lst us,S) :=
 qs (e_v he) (qg hs) zla a_n (jz rfl (zq (zg (a_c (zaz rfl hs) a_n) (zf9 m hl sb))))
theorem zt1{q:Nat}(he:ev[q]? = some (some (.obj i)))(hs:S[i]? = some (shf d j))(hj:S[j]? = some (.lst dl)):qc "Shelf" "deeds" x4 (eV q) aN ev S=some (.lst dl,S) :=
 qs (e_v he) (qg hs) zit a_n (jz rfl (zq (zme (zdv (e_v rfl) (qg hs) zhs) hj)))
theorem zjv{f v:E}{us:List D}(hf:f ev S=some (.obj j,S))(hj:S[j]? = some (.lst us))(hv:v ev S=some (x,S))(hl:us.length<16777216):yk f v ev S=some (.nx ev,S.set j (.lst (us++[x]))):=by have hz:sizeLine=16777216:=z3a;simp only[yk,hf,Option.bind_some,hj,hv,hz,z2v hl]
theorem zwy(S:Sto)(x:D){o:Out}{S':Sto}{c:C}(h:c [some (.obj S.length),some (.obj 0),some x] (S++[shf .non (S.length+1),.lst []])=some (o,S')) :
   zt (j9 "Shelf" "wood" (eV 0) (eV 1)) (zt (j9 "Shelf" "held" (eV 0) (eK .non)) (zt (j9 "Shelf" "done" (eV 0) (zfn aN)) c)) [some (.obj S.length),some (.obj 0),some x] (S++[.ins "Shelf" []])=some (o,S'):=by
 have a1:j9 "Shelf" "wood" (eV 0) (eV 1) [some (.obj S.length),some (.obj 0),some x] (S++[.ins "Shelf" []])=some (.nx [some (.obj S.length),some (.obj 0),some x],S++[.ins "Shelf" [("wood",.obj 0)]]):=by simp[j9,eV,ki,zd5]
 have a2:j9 "Shelf" "held" (eV 0) (eK .non) [some (.obj S.length),some (.obj 0),some x] (S++[.ins "Shelf" [("wood",.obj 0)]])=some (.nx [some (.obj S.length),some (.obj 0),some x],S++[.ins "Shelf" [("wood",.obj 0),("held",.non)]]):=by simp[j9,eV,eK,ki,zd5,hw1]
 have a3:j9 "Shelf" "done" (eV 0) (zfn aN) [some (.obj S.length),some (.obj 0),some x] (S++[.ins "Shelf" [("wood",.obj 0),("held",.non)]])=some (.nx [some (.obj S.length),some (.obj 0),some x],S++[shf .non (S.length+1),.lst []]):=by
   have e1:zfn aN [some (.obj S.length),some (.obj 0),some x] (S++[.ins "Shelf" [("wood",.obj 0),("held",.non)]])=some (.obj (S.length+1),S++[.ins "Shelf" [("wood",.obj 0),("held",.non)],.lst []]):=by have:=zne (a:=aN) (ev:=[some (.obj S.length),some (.obj 0),some x]) (S:=S++[.ins "Shelf" [("wood",.obj 0),("held",.non)]]) a_n (z2x _);simpa using this
   simp[j9,e1,eV,ki,zd5,hw2,hw3,shf,sfs]
 exact ze a1 (ze a2 (ze a3 h))
theorem zum{new:List D}{T:Sto}(w:Wt 0 0 (wd (kg 0) n::R) n new T):T=wd (kg 0) (n+new.length)::R:=by
 apply List.ext_getElem?;intro q;cases q with
 |zero=>exact w.at_
 |succ q=>rw[w.ne (q+1) (by omega)];rfl
theorem zle{f g:E}(hf:f ev (wd (kg 0) n::R)=some (.obj 0,wd (kg 0) n::R))(hg:g ev (wd (kg 0) n::R)=some (.lst ts,wd (kg 0) n::R))(h1:∀x∈ts,Thing 0 x)(hl:ts.length<=2000):∃d h n',zaf "Shelf" z5 (aC f (aC g aN)) ev (wd (kg 0) n::R)=some (.obj (R.length+1),wd (kg 0) n'::(R++[shf d (R.length+2),.lst []]))/\Mk 0 d ts h:=by
 obtain⟨d,h,new,T,c,rr⟩:=zj8 (k:=0) (i:=0) (n:=n) (P:=fun _=>True) (S:=wd (kg 0) n::(R++[shf .non (R.length+2),.lst []])) rfl h1 hl;have eT:=zum rr.wt;subst eT;refine⟨d,h,n+new.length,?_,rr.mm⟩;have hT:(wd (kg 0) (n+new.length)::(R++[shf .non (R.length+2),.lst []]))[R.length+1]? = some (shf .non (R.length+2)):=by simp
 have ci:z5 [.obj (R.length+1),.obj 0,.lst ts] ((wd (kg 0) n::R)++[.ins "Shelf" []])=some (.non,(wd (kg 0) (n+new.length)::(R++[shf .non (R.length+2),.lst []])).set (R.length+1) (shf d (R.length+2))) :=
   zkl rfl (zwy (wd (kg 0) n::R) (.lst ts) (qd (q8 (e_2 (e_v rfl) e_k rfl)) (zhp rfl (zg (a_c (e_v rfl) (a_c (e_v rfl) a_n)) c) hT)))
 have e0:(wd (kg 0) n::R).length=R.length+1:=rfl;simp only[zaf,a_c hf (a_c hg a_n),Option.bind_some,e0,ci];simp
theorem zsc{f:E}(hf:f ev S=some (.obj 0,S)):zaf "Shelf" (znj 1 z5) (aC f aN) ev S=some (.obj S.length,S++[shf .non (S.length+1),.lst []]):=by
 have c:znj 1 z5 [.obj S.length,.obj 0] (S++[.ins "Shelf" []])=some (.non,S++[shf .non (S.length+1),.lst []]):=by show z5 [.obj S.length,.obj 0,.non] (S++[.ins "Shelf" []])=_;exact zkl rfl (zwy S .non (zm (q8 (e_2 (e_v rfl) e_k rfl))))
 simp only[zaf,a_c hf a_n,Option.bind_some,c]
def kfs(s:Nat)(d:D)(m k:Int):List (Str×D):=[("shelf",.obj s),("stood",d),("met",.int m),("mark",.int k)]
def wkr(s:Nat)(d:D)(m k:Int):MO:=.ins "Strict" (kfs s d m k)
variable {s:Nat}{m0 k0:Int}
theorem qk(h:S[i]? = some (wkr s d m0 k0)):ki "Strict" S (.obj i)=some (i,kfs s d m0 k0):=by simp[ki,h,wkr]
theorem wn1:(("stood":Str)=="shelf")=false:=by decide +kernel
theorem wn2:(("met":Str)=="shelf")=false:=by decide +kernel
theorem wn3:(("met":Str)=="stood")=false:=by decide +kernel
theorem wn4:(("mark":Str)=="shelf")=false:=by decide +kernel
theorem wn5:(("mark":Str)=="stood")=false:=by decide +kernel
theorem wn6:(("mark":Str)=="met")=false:=by decide +kernel
theorem zpd:(kfs s d m0 k0).lookup ("stood":Str)=some d:=by simp[kfs,List.lookup,wn1]
theorem zmj:(kfs s d m0 k0).lookup ("mark":Str)=some (.int k0):=by simp[kfs,List.lookup,wn4,wn5,wn6]
theorem zpf{m:Str}(h1:(m=="shelf")=false)(h2:(m=="stood")=false)(h3:(m=="met")=false)(h4:(m=="mark")=false):(kfs s d m0 k0).lookup m=none:=by simp[kfs,List.lookup,h1,h2,h3,h4]
theorem zeo:(kfs s d m0 k0).lookup ("row":Str)=none:=zpf (by decide +kernel) (by decide +kernel) (by decide +kernel) (by decide +kernel)
theorem zhz:(kfs s d m0 k0).lookup ("more":Str)=none:=zpf (by decide +kernel) (by decide +kernel) (by decide +kernel) (by decide +kernel)
theorem zdh:(kfs s d m0 k0).lookup ("step":Str)=none:=zpf (by decide +kernel) (by decide +kernel) (by decide +kernel) (by decide +kernel)
end Pg
namespace Pg
open PySem L2 F Mt
variable {d d0 l r t x y o:D}{ts us dl ks rt:List D}{h i j g rh:Nat}{n:Int}{S S0 S1 R:Sto}{ev:Ev}
def W0(n:Int)(d:D)(dl ks:List D)(R:Sto):Sto:=wd (kg 0) n::shf d 2::.lst dl::.lst ks::R
theorem zth(hl:dl.length<16777216):je [.obj 1,x,y] (W0 n d dl ks R)=some (.non,W0 n x (dl++[y]) ks R) :=
 zkl rfl (ze (zhp (S1:=W0 n d dl ks R) rfl (e_v rfl) rfl) (zjv (j:=2) (us:=dl) (S:=W0 n x dl ks R) (zdv (e_v rfl) (qg (S:=W0 n x dl ks R) (i:=1) (d:=x) (j:=2) rfl) zhs) rfl (e_v rfl) hl))
theorem zdl{a b:E}{n':Int}(he:ev[0]? = some (some (.obj 1)))(ha:a ev (W0 n d dl ks R)=some (x,W0 n' d dl ks R))(hb:b ev (W0 n' d dl ks R)=some (y,W0 n' d dl ks R))(hl:dl.length<16777216):qc "Shelf" "hold" je (eV 0) (aC a (aC b aN)) ev (W0 n d dl ks R)=some (.non,W0 n' x (dl++[y]) ks R) :=
 qs (e_v he) (qg (S:=W0 n d dl ks R) (i:=1) (d:=d) (j:=2) rfl) zhr (a_c ha (a_c hb a_n)) (zth hl)
theorem h1:(W0 n d dl ks R)[1]? = some (shf d 2):=rfl
theorem zub{new:List D}{T:Sto}(w:Wt 0 0 (W0 n d dl ks R) n new T):T=W0 (n+new.length) d dl ks R:=zum w
def zxk(p:Nat):D:=.tup [.str (Str.ofString "out"),.int p]
def znl(p:Nat):D:=.tup [.str (Str.ofString "swap"),.int p]
def zt2(p:Nat):D:=.tup [.str (Str.ofString "put"),.int p]
def znk(p q:Nat):D:=.tup [.str (Str.ofString "turned"),.int p,.int q]
def zpu(p:Nat):D:=.tup [.str (Str.ofString "back"),.int p]
def zfq(p:Nat):D:=.tup [.str (Str.ofString "laid"),.int p]
def zxl(p:Nat):D:=.tup [.str (Str.ofString "cut"),.int p]
inductive Mv (a:Nat):Nat->D->Prop
 |out (p:Nat):p<a->Mv a (a-1) (zxk p)
 |swap (p:Nat):p<a->Mv a a (znl p)
 |turn (p q:Nat):p<=q->q<=a->Mv a a (znk p q)
 |laid (q:Nat):q<=1100->Mv a (a+q) (zfq q)
 |cut (p:Nat):p<=a->Mv a p (zxl p)
 |back (q:Nat):q<=1100->Mv a q (zpu q)
 |put (p:Nat):p<=a->Mv a (a+1) (zt2 p)
theorem Mv.bnd0{a b:Nat}{v:D}(m:Mv a b v):bnd 0 v=true:=by cases m<;>rfl
theorem Mv.pl2{a b:Nat}{v:D}(m:Mv a b v):pl 2 v=true:=by cases m<;>rfl
theorem zu8{p:Nat}(m:Mk 0 d us h)(hl:us.length<=2000)(hp:p<us.length)(hd:dl.length<16777216):∃d' h' n',zbi [.obj 1,.int p] (W0 n d dl ks R)=some (us[p],W0 n' d' (dl++[zxk p]) ks R)/\Mk 0 d' (us.eraseIdx p) h':=by obtain⟨d',h',new,T1,c,rr,few⟩:=zv8 (k:=0) (i:=0) (S:=W0 n d dl ks R) (n:=n) rfl m hl hp (zij m);have eT:=zub rr.wt;subst eT;exact⟨d',h',n+new.length,jz rfl (ze (zj (zg (a_c (zaz rfl h1) (a_c (e_v rfl) a_n)) (zxx m hl (z19 hp) _))) (ze (qw (zdl rfl (zg (a_c (zb1 rfl h1) (a_c (zaz rfl h1) (a_c (e_v rfl) a_n))) c) (jr (a_c e_k (a_c (e_v rfl) a_n)) (z11 rfl)) hd)) (zq (e_v rfl)))),rr.mm⟩
theorem zsd{p:Nat}(m:Mk 0 d us h)(hl:us.length<=2000)(hp:p<us.length)(ht:Thing 0 x)(hd:dl.length<16777216):∃d' n',zav [.obj 1,.int p,x] (W0 n d dl ks R)=some (.non,W0 n' d' (dl++[znl p]) ks R)/\Mk 0 d' (us.set p x) h:=by obtain⟨d',new,T1,c,rr,few⟩:=zjt (k:=0) (i:=0) (S:=W0 n d dl ks R) (n:=n) rfl m hl hp ht (zij m);have eT:=zub rr.wt;subst eT;exact⟨d',n+new.length,zkl rfl (qw (zdl rfl (zg (a_c (zb1 rfl h1) (a_c (zaz rfl h1) (a_c (e_v rfl) (a_c (e_v rfl) a_n)))) c) (jr (a_c e_k (a_c (e_v rfl) a_n)) (z11 rfl)) hd)),rr.mm⟩
theorem zu7{p:Nat}(m:Mk 0 d us h)(hl:us.length<2000)(hp:p<=us.length)(ht:Thing 0 x)(hd:dl.length<16777216):∃d' h' n',k9 [.obj 1,.int p,x] (W0 n d dl ks R)=some (.non,W0 n' d' (dl++[zt2 p]) ks R)/\Mk 0 d' (us.take p++x::us.drop p) h':=by obtain⟨d',h',new,T1,c,rr,few⟩:=zvp (k:=0) (i:=0) (S:=W0 n d dl ks R) (n:=n) rfl m hl hp ht (zij m);have eT:=zub rr.wt;subst eT;exact⟨d',h',n+new.length,zkl rfl (qw (zdl rfl (zg (a_c (zb1 rfl h1) (a_c (zaz rfl h1) (a_c (e_v rfl) (a_c (e_v rfl) a_n)))) c) (jr (a_c e_k (a_c (e_v rfl) a_n)) (z11 rfl)) hd)),rr.mm⟩
theorem zlf{p q:Nat}(m:Mk 0 d us h)(hl:us.length<=2000)(hp:p<=q)(hq:q<=us.length)(hd:dl.length<16777216):∃d' h' n',yn [.obj 1,.int p,.int q] (W0 n d dl ks R)=some (.non,W0 n' d' (dl++[znk p q]) ks R)/\Mk 0 d' (turn p q us) h':=by obtain⟨d',h',new,T1,c,rr⟩:=zd9 (k:=0) (i:=0) (S:=W0 n d dl ks R) (n:=n) rfl m hl hp hq (zij m);have eT:=zub rr.wt;subst eT;exact⟨d',h',n+new.length,zkl rfl (qw (zdl rfl (zg (a_c (zb1 rfl h1) (a_c (zaz rfl h1) (a_c (e_v rfl) (a_c (e_v rfl) a_n)))) c) (jr (a_c e_k (a_c (e_v rfl) (a_c (e_v rfl) a_n))) (z11 rfl)) hd)),rr.mm⟩
theorem zse(m:Mk 0 x us h)(hd:dl.length<16777216):zaw [.obj 1,x] (W0 n d dl ks R)=some (.non,W0 n x (dl++[zpu us.length]) ks R) :=
 zkl rfl (qw (zdl rfl (e_v rfl) (jr (a_c e_k (a_c (zg (a_c (e_v rfl) a_n) (ja m _)) a_n)) (z11 rfl)) hd))
theorem zlg{q:Nat}(hq:(W0 n d dl ks R)[q]? = some (shf o j))(m:Mk 0 d us h)(mo:Mk 0 o rt rh)(hl:us.length+rt.length<=2000)(hd:dl.length<16777216):∃d' h' n',yg [.obj 1,.obj q] (W0 n d dl ks R)=some (.non,W0 n' d' (dl++[zfq rt.length]) ks R)/\Mk 0 d' (us++rt) h':=by obtain⟨d',h',new,T1,c,rr,few⟩:=zka (k:=0) (i:=0) (S:=W0 n d dl ks R) (n:=n) rfl m mo hl (zij m) (zij mo);have eT:=zub rr.wt;subst eT;exact⟨d',h',n+new.length,zkl rfl (ze (zj (zi9 rfl hq)) (qw (zdl rfl (zg (a_c (zb1 rfl h1) (a_c (zaz rfl h1) (a_c (e_v rfl) a_n))) c) (jr (a_c e_k (a_c (zg (a_c (e_v rfl) a_n) (ja mo _)) a_n)) (z11 rfl)) hd))),rr.mm⟩
theorem zp5(J:Sto)(m m':MO):(W0 n d dl ks (R++m::J)).set (R.length+4) m'=W0 n d dl ks (R++m'::J):=by simp[W0]
theorem zn6(J:Sto)(m:MO):(W0 n d dl ks (R++m::J))[R.length+4]? = some m:=by simp[W0]
theorem zup(J:Sto):(W0 n d dl ks (R++J)).take (R.length+4)=W0 n d dl ks R:=by simp[W0]
theorem zu9{p:Nat}(m:Mk 0 d us h)(hl:us.length<=2000)(hp:p<=us.length)(hd:dl.length<16777216):∃x y xh yh n' J,zbj [.obj 1,.int p] (W0 n d dl ks R)=some (.obj (R.length+4),W0 n' x (dl++[zxl p]) ks (R++(shf y (R.length+5))::J))/\Mk 0 x (us.take p) xh/\Mk 0 y (us.drop p) yh:=by
 obtain⟨x,y,xh,yh,new,T1,c,rr⟩:=zxm (k:=0) (i:=0) (S:=W0 n d dl ks R) (n:=n) rfl m hl hp (zij m);have eT:=zub rr.wt;subst eT;have c0:zaf "Shelf" (znj 1 z5) (aC (yw "Shelf" "wood" (eV 0)) aN) [some (.obj 1),some (.int p),some (.tup [x,y]),none] (W0 (n+new.length) d dl ks R)=some (.obj (R.length+4),W0 (n+new.length) d dl ks (R++shf .non (R.length+5)::[.lst []])):=zsc (zb1 rfl h1);have c1:j9 "Shelf" "held" (eV 3) (e2s qj (eV 2) (eK (.int 1))) [some (.obj 1),some (.int p),some (.tup [x,y]),some (.obj (R.length+4))] (W0 (n+new.length) d dl ks (R++shf .non (R.length+5)::[.lst []]))=some (.nx [some (.obj 1),some (.int p),some (.tup [x,y]),some (.obj (R.length+4))],W0 (n+new.length) d dl ks (R++shf y (R.length+5)::[.lst []])):=by have:=zhp (q:=3) (ev:=[some (.obj 1),some (.int p),some (.tup [x,y]),some (.obj (R.length+4))]) (v:=e2s qj (eV 2) (eK (.int 1))) rfl (qm (e_v rfl) e_k rfl) (zn6 (n:=n+new.length) (d:=d) (dl:=dl) (ks:=ks) (R:=R) [.lst []] (shf .non (R.length+5))) (x:=y);rw[zp5]at this;exact this
 exact⟨x,y,xh,yh,n+new.length,_,jz rfl (ze (zj (zg (a_c (zb1 rfl h1) (a_c (zaz rfl h1) (a_c (e_v rfl) a_n))) c)) (ze (zj c0) (ze c1 (ze (qw (zdl rfl (qm (e_v rfl) e_k rfl) (jr (a_c e_k (a_c (e_v rfl) a_n)) (z11 rfl)) hd)) (zq (e_v rfl)))))),rr.mx,rr.my⟩
section
variable {k:Nat} [Kd k]
mutual
theorem zjo{m:Nat}:∀{d:D},bnd 0 d=true->bnd m d=true
 | .obj i,hb=>by unfold bnd at hb;simp at hb
 | .tup ds,hb=>by unfold bnd at hb ⊢;exact bndL_up hb
 | .lst ds,hb=>by unfold bnd at hb ⊢;exact bndL_up hb
 | .non,_=>by unfold bnd;rfl
 | .bl _,_=>by unfold bnd;rfl
 | .int _,_=>by unfold bnd;rfl
 | .str _,_=>by unfold bnd;rfl
 | .fn _,_=>by unfold bnd;rfl
 | .ty _,_=>by unfold bnd;rfl
 | .lam _,_=>by unfold bnd;rfl
 | .clo _ ds,hb=>by unfold bnd at hb ⊢;exact bndL_up hb
theorem bndL_up{m:Nat}:∀{ds:List D},bndL 0 ds=true->bndL m ds=true
 | [],_=>rfl
 | d::ds,hb=>by unfold bndL at hb ⊢;obtain⟨h1,h2⟩:=Bool.and_eq_true_iff.mp hb;rw[zjo h1,bndL_up h2];rfl
end
theorem znv(hx:∀x∈ts,Thing k x):bnd 0 (zb7 k ts)=true:=by
 by_cases hk:k=0
 · subst hk;rw[zgb];rfl
 · cases ts with
   |nil=>rfl
   | cons t ts=>
     have q:=zuw (zio hk (by simp) hx);generalize zb7 k (t::ts)=z at q ⊢;cases q with
     |non=>rfl
     |int i=>rfl
     |str z=>rfl
     |pair a b=>rfl
theorem Mk.bnd0(m:Mk k d ts h):bnd 0 d=true:=by
 induction m with
 |non=>rfl
 | @node num a l t r lt rt lh rh ml mr ht h1 h2 i1 i2=>
   have hth:∀x∈ord a (lt++t::rt),Thing k x:=(Mk.node (num:=num) (a:=a) ml mr ht h1 h2).things;unfold mkD;unfold bnd;simp only[bndL,i1,i2,zhc ht,znv hth,znv (zvh hth),z5p];simp[bnd]
end
theorem zsb{m:Nat}(hm:2<m)(hd:bnd 0 d=true):zie m (shf d 2)=true:=by show(bnd m (.obj 0)&&(bnd m d&&(bnd m (.obj 2)&&true)))=true;rw[zjo hd];simp[bnd];omega
def Kp(b:Nat)(x:D):Prop:=∃md us g,x=.tup [md,.lst us]/\Mk 0 md us g/\us.length<=b
theorem zf5:∀{ts:List D},(∀x∈ts,bnd 0 x=true)->bndL 0 ts=true
 | [],_=>rfl
 | x::ts,h=>by unfold bndL;rw[h x (z2z ..),zf5 fun y hy=>h y (z2e _ hy)];rfl
theorem Kp.bnd0{b:Nat}(k:Kp b x):bnd 0 x=true:=by obtain⟨md,us,g,rfl,m,_⟩:=k;show(bnd 0 md&&(bnd 0 (.lst us)&&true))=true;rw[Mk.bnd0 m,show bnd 0 (.lst us)=true from zah m.things];rfl
theorem Kp.mono{b c:Nat}(k:Kp b x)(h:b<=c):Kp c x:=by obtain⟨md,us,g,e,m,hl⟩:=k;exact⟨md,us,g,e,m,by omega⟩
def Rb(R:Sto):Prop:=∀m∈R,zie (R.length+4) m=true
def Dl(dl:List D):Prop:=∀v∈dl,bnd 0 v=true/\pl 2 v=true
theorem Dl.app{v:D}{a b:Nat}(q:Dl dl)(m:Mv a b v):Dl (dl++[v]):=fun x hx=>(z32.mp hx).elim (q x) fun e=>by rw[z20.mp e];exact⟨m.bnd0,m.pl2⟩
theorem zuo{b:Nat}(m:Mk 0 d us h)(q:Dl dl)(kk:∀x∈ks,Kp b x)(rb:Rb R):SB (W0 n d dl ks R):=fun z hz=>by
 have e:(W0 n d dl ks R).length=R.length+4:=rfl;rw[e];rcases z2l.mp hz with rfl | hz
 · exact zun (k:=0) _ _
 rcases z2l.mp hz with rfl | hz
 · exact zsb (by omega) (Mk.bnd0 m)
 rcases z2l.mp hz with rfl | hz
 · exact bndL_up (zf5 fun v hv=>(q v hv).1)
 rcases z2l.mp hz with rfl | hz
 · exact bndL_up (zf5 fun v hv=>(kk v hv).bnd0)
 exact rb z hz
theorem zw5{g:G}{ds:List D}{S':Sto}{d':D}(hg:g ds S=some (d,S'))(hb:SB (S'.take S.length))(hl:(S'.take S.length).length=S.length)(hd:frd S.length S' d=some d'):frz2 g ds S=some (d',S'.take S.length):=by
 have e2:(S'.take S.length).all (zie S.length)=true:=z2p.mpr fun m hm=>by have:=hb m hm;rw[hl]at this;exact this
 simp only[frz2,hg,Option.bind_some,e2,z37,hd,Option.map_some]
theorem zz6{m a b:Nat}{T:Sto}{v:D}(h1:∀x∈us,Thing 0 x)(h2:Mv a b v):frd m T (.tup [.lst us,v])=some (.tup [.lst us,v]):=by
 have e1:frd m T (.lst us)=some (.lst us):=by have:bndL m us=true:=zah h1;simp[frd,bnd,this]
 have e2:frd m T v=some v:=by cases h2<;>simp[zxk,znl,znk,zfq,zxl,zpu,zt2,frd,frdL,bnd]
 simp only[frd,frdL]at *;simp only[e1,e2,Option.bind_some,Option.map_some]
end Pg
namespace Pg
open PySem L2 F Mt
variable {d d0 l r t x y o:D}{ts us dl ks rt:List D}{h i j g rh:Nat}{n:Int}{S S0 S1 R:Sto}{ev:Ev}
theorem zv7{p q v:Nat}(hl:ts.length<=2000)(hp:p<ts.length)(h1:ev[q]? = some (some (.lst ts)))(h2:ev[v]? = some (some (.int p))) :
   e2 zz (eSl (eV q) pN (pE (eV v))) (eSl (eV q) (pE (e2 zz (eV v) (eK (.int 1)))) pN) ev S=some (.lst (ts.eraseIdx p),S):=by
 have:=e_2 (znd (e_v h1) p_n (p_e (e_v h2)) (zk9 p)) (znd (S:=S) (e_v h1) (p_e (e_2 (e_v h2) e_k (zua p))) p_n (zc5 (show p+1<=ts.length from hp))) (zai (xs:=ts.take p) (ys:=ts.drop (p+1)) (by simp only[z2d,z2s];omega));rw[List.eraseIdx_eq_take_drop_succ];exact this
theorem zrp{p q v w:Nat}(hl:ts.length<=2000)(hp:p<ts.length)(h1:ev[q]? = some (some (.lst ts)))(h2:ev[v]? = some (some (.int p)))(h3:ev[w]? = some (some x)) :
   e2 zz (e2 zz (eSl (eV q) pN (pE (eV v))) (zd7 (aC (eV w) aN))) (eSl (eV q) (pE (e2 zz (eV v) (eK (.int 1)))) pN) ev S=some (.lst (ts.set p x),S):=by
 have:=e_2 (e_2 (znd (e_v h1) p_n (p_e (e_v h2)) (zk9 p)) (zcs (a_c (e_v h3) a_n) (z11 rfl)) (zai (xs:=ts.take p) (ys:=[x]) (by simp only[z2d,List.length_cons,List.length_nil];omega))) (znd (S:=S) (e_v h1) (p_e (e_2 (e_v h2) e_k (zua p))) p_n (zc5 (show p+1<=ts.length from hp))) (zai (xs:=ts.take p++[x]) (ys:=ts.drop (p+1)) (by simp only[z13,z2d,z2s,List.length_cons,List.length_nil];omega));rw[show ts.take p++[x]++ts.drop (p+1)=ts.set p x by rw[List.set_eq_take_append_cons_drop,z2v hp];simp]at this;exact this
theorem zvo{p q v w:Nat}(hl:ts.length<=2000)(hp:p<=ts.length)(h1:ev[q]? = some (some (.lst ts)))(h2:ev[v]? = some (some (.int p)))(h3:ev[w]? = some (some x)) :
   e2 zz (e2 zz (eSl (eV q) pN (pE (eV v))) (zd7 (aC (eV w) aN))) (eSl (eV q) (pE (eV v)) pN) ev S=some (.lst (ts.take p++x::ts.drop p),S):=by
 have:=e_2 (e_2 (znd (e_v h1) p_n (p_e (e_v h2)) (zk9 p)) (zcs (a_c (e_v h3) a_n) (z11 rfl)) (zai (xs:=ts.take p) (ys:=[x]) (by simp only[z2d,List.length_cons,List.length_nil];omega))) (znd (S:=S) (e_v h1) (p_e (e_v h2)) p_n (zc5 hp)) (zai (xs:=ts.take p++[x]) (ys:=ts.drop p) (by simp only[z13,z2d,z2s,List.length_cons,List.length_nil];omega));rw[List.append_assoc,List.singleton_append]at this;exact this
theorem zrh{s e q v w:Nat}(hl:ts.length<=2000)(hs:s<=e)(he:e<=ts.length)(h1:ev[q]? = some (some (.lst ts)))(h2:ev[v]? = some (some (.int s)))(h3:ev[w]? = some (some (.int e))) :
   e2 zz (e2 zz (eSl (eV q) pN (pE (eV v))) (zb2 (eSl (eV q) (pE (eV v)) (pE (eV w))))) (eSl (eV q) (pE (eV w)) pN) ev S=some (.lst (turn s e ts),S) :=
 e_2 (e_2 (znd (e_v h1) p_n (p_e (e_v h2)) (zk9 s)) (zmf (znd (e_v h1) (p_e (e_v h2)) (p_e (e_v h3)) (zu5 hs he))) (zai (xs:=ts.take s) (ys:=((ts.take e).drop s).reverse) (by simp only[z2d,z2s,z3m];omega))) (znd (S:=S) (e_v h1) (p_e (e_v h3)) p_n (zc5 he)) (zai (xs:=ts.take s++((ts.take e).drop s).reverse) (ys:=ts.drop e) (by simp only[z13,z2d,z2s,z3m];omega))
theorem zqn(ts:List D):ze9 (.lst ts) (.lst [])=some (.bl (decide (ts≠[]))):=by cases ts<;>rfl
theorem zzw(w:Int):zue (.int w) (.tup [.int 3,.int 4])=some (.bl (decide (w=3\/w=4))):=by
 show some (D.bl (inV (V.int w) [V.int 3,V.int 4]))=_;congr 2;by_cases h3:w=3
 · subst h3;rfl
 · by_cases h4:w=4
   · subst h4;rfl
   · rw[z2b (by omega)];simp[inV,eqV,h3,h4,z26 h3,z26 h4]
theorem zj1{f z:Int}(m:Mk 0 d ts h)(hl:ts.length<2000)(hd:dl.length<16777216):∃p d' h' n',p<=ts.length/\zac [.obj 1,.lst ts,.int z,.int f] (W0 n d dl ks R)=some (.tup [.lst (ts.take p++.int f::ts.drop p),zt2 p],W0 n' d' (dl++[zt2 p]) ks R)/\Mk 0 d' (ts.take p++.int f::ts.drop p) h':=by obtain⟨p,hp,cp⟩:=zfc z ts.length;obtain⟨d',h',n',c,m'⟩:=zu7 (n:=n) (ks:=ks) (R:=R) m hl hp (ziq f) hd;exact⟨p,d',h',n',hp,jz rfl (ze (zj (e_2 (e_v rfl) (e_2 (e_a (a_c (e_v rfl) a_n) rfl) e_k (add_int _ _)) cp)) (ze (qw (qs (e_v rfl) (qg h1) zlb (a_c (e_v rfl) (a_c (e_v rfl) a_n)) c)) (zq (jr (a_c (zvo (by omega) hp rfl rfl rfl) (a_c (jr (a_c e_k (a_c (e_v rfl) a_n)) (z11 rfl)) a_n)) (z11 rfl))))),m'⟩
theorem zq7(f:Int)(S:Sto):∀(m:Nat) (lo:Int),∃us,zgy (e2 zz (eV 1) (eV 0)) [some (.int f)] (jb lo m) S=some (us,S)/\us.length=m/\∀x∈us,Thing 0 x
 |0,lo=>⟨[],rfl,rfl,fun _ hx=>by cases hx⟩
 | m+1,lo=>by obtain⟨us,c,l,t⟩:=zq7 f S m (lo+1);refine⟨.int (f+lo)::us,?_,by rw[List.length_cons,l],fun x hx=>(z2l.mp hx).elim (fun e=>by rw[e];exact ziq _) (t x)⟩;rw[zb9];show((e2 zz (eV 1) (eV 0) [some (.int lo),some (.int f)] S).bind fun p=>(zgy (e2 zz (eV 1) (eV 0)) [some (.int f)] (jb (lo+1) m) p.2).bind fun q=>some (p.1::q.1,q.2))=_;rw[show e2 zz (eV 1) (eV 0) [some (.int lo),some (.int f)] S=some (.int (f+lo),S)from rfl];simp only[Option.bind_some,c]
theorem zpc{f z:Int}(z0:0<=z)(m:Mk 0 d ts h)(hl:ts.length<1000)(hd:dl.length<16777216):∃us d' h' n' J,zad [.obj 0,.obj 1,.lst ts,.int z,.int f] (W0 n d dl ks R)=some (.tup [.lst (ts++us),zfq us.length],W0 n' d' (dl++[zfq us.length]) ks (R++J))/\Mk 0 d' (ts++us) h'/\(us.length<=3\/(us.length=ts.length/\ts.length<60)):=by
 have a0:=z3c z (show(4:Int)≠0 by decide);have a1:=z25 z (show(0:Int)<4 by decide);obtain⟨us,cu,lu,tu⟩:=zq7 f (W0 n d dl ks R) (z%4).toNat 0;have first:qo 5 (zev [4] (e2 jq (eV 3) (eK (.int 4))) (e2 zz (eV 1) (eV 0))) [some (.obj 0),some (.obj 1),some (.lst ts),some (.int z),some (.int f),none] (W0 n d dl ks R)=some (.nx [some (.obj 0),some (.obj 1),some (.lst ts),some (.int z),some (.int f),some (.lst us)],W0 n d dl ks R) :=
   zj (znf (e_2 (e_v rfl) e_k (zbe (by decide))) a0 (by omega) cu)
 have c1:e2 zak (e2 jq (e2 zbr (eV 3) (eK (.int 4))) (eK (.int 4))) (eK (.int 0)) [some (.obj 0),some (.obj 1),some (.lst ts),some (.int z),some (.int f),some (.lst us)] (W0 n d dl ks R)=some (.bl (decide (z/4%4=0)),W0 n d dl ks R):=e_2 (e_2 (e_2 (e_v rfl) e_k (zh5 (by decide))) e_k (zbe (by decide))) e_k (zps _ _);have c2:e2 zdb (eA zas (aC (eV 2) aN)) (eK (.int 60)) [some (.obj 0),some (.obj 1),some (.lst ts),some (.int z),some (.int f),some (.lst us)] (W0 n d dl ks R)=some (.bl (decide ((ts.length:Int)<60)),W0 n d dl ks R):=e_2 (e_a (a_c (e_v rfl) a_n) rfl) e_k (zzn _ _);have rest:∀(cc:zkn (bE (e2 zak (e2 jq (e2 zbr (eV 3) (eK (.int 4))) (eK (.int 4))) (eK (.int 0)))) (bE (e2 zdb (eA zas (aC (eV 2) aN)) (eK (.int 60)))) [some (.obj 0),some (.obj 1),some (.lst ts),some (.int z),some (.int f),some (.lst us)] (W0 n d dl ks R)=some (false,W0 n d dl ks R)),∃us d' h' n' J,zad [.obj 0,.obj 1,.lst ts,.int z,.int f] (W0 n d dl ks R)=some (.tup [.lst (ts++us),zfq us.length],W0 n' d' (dl++[zfq us.length]) ks (R++J))/\Mk 0 d' (ts++us) h'/\(us.length<=3\/(us.length=ts.length/\ts.length<60)):=fun cc=>by obtain⟨o,g,n1,cs,mo⟩:=zle (n:=n) (R:=shf d 2::.lst dl::.lst ks::R) (ts:=us) (ev:=[some (.obj 0),some (.obj 1),some (.lst ts),some (.int z),some (.int f),some (.lst us)]) (f:=eV 0) (g:=eV 5) (e_v rfl) (e_v rfl) tu (by omega);obtain⟨d',h',n',c,m'⟩:=zlg (n:=n1) (ks:=ks) (R:=R++shf o (R.length+5)::[.lst []]) (q:=R.length+4) (zn6 _ _) m mo (by omega) hd;exact⟨us,d',h',n',_,jz rfl (ze first (ze (zm cc) (ze (qw (qs (e_v rfl) (qg (S:=W0 n d dl ks R) (i:=1) h1) zlc (a_c cs a_n) c)) (zq (jr (a_c (e_2 (e_v rfl) (e_v rfl) (zai (xs:=ts) (ys:=us) (by omega))) (a_c (jr (a_c e_k (a_c (e_a (a_c (e_v rfl) a_n) rfl) a_n)) (z11 rfl)) a_n)) (z11 rfl)))))),m',.inl (by omega)⟩
 by_cases e1:z/4%4=0
 · by_cases e2':(ts.length:Int)<60
   · rw[z2g e1]at c1;rw[z2g e2']at c2;obtain⟨d',h',n',c,m'⟩:=zlg (n:=n) (ks:=ks) (R:=R) (q:=1) h1 m m (by omega) hd;refine⟨ts,d',h',n',[],?_,m',.inr ⟨rfl,by omega⟩⟩;rw[z2y];exact jz rfl (ze first (qv (qd (zhh (q8 c1) (q8 c2)) (ze (qw (qs (e_v rfl) (qg (S:=W0 n d dl ks R) (i:=1) h1) zlc (a_c (e_v rfl) a_n) c)) (zq (jr (a_c (e_2 (e_v rfl) (e_v rfl) (zai (xs:=ts) (ys:=ts) (by omega))) (a_c (jr (a_c e_k (a_c (e_a (a_c (e_v rfl) a_n) rfl) a_n)) (z11 rfl)) a_n)) (z11 rfl)))))))
   · rw[z2g e1]at c1;rw[z2b e2']at c2;exact rest (zhh (q8 c1) (q8 c2))
 · rw[z2b e1]at c1;exact rest (zny (q8 c1))
theorem z0e{n':Int}{d' v:D}{ts' ds:List D}{h' a b c:Nat}{J:Sto}(hg:zv 12 6 zbk ds (W0 n d dl ks R)=some (.tup [.lst ts',v],W0 n' d' (dl++[v]) ks (R++J)))(m':Mk 0 d' ts' h')(q:Dl dl)(mv:Mv a b v)(kk:∀x∈ks,Kp c x)(rb:Rb R):jf ds (W0 n d dl ks R)=some (.tup [.lst ts',v],W0 n' d' (dl++[v]) ks R):=by have e:=zup (n:=n') (d:=d') (dl:=dl++[v]) (ks:=ks) (R:=R) J;have:=zw5 (S:=W0 n d dl ks R) hg (by show SB ((W0 n' d' (dl++[v]) ks (R++J)).take (R.length+4));rw[e];exact zuo m' (q.app mv) kk rb) (by show((W0 n' d' (dl++[v]) ks (R++J)).take (R.length+4)).length=_;rw[e];rfl) (zz6 m'.things mv);rw[show(W0 n d dl ks R).length=R.length+4 from rfl,e]at this;exact this
theorem zxi{n':Int}{d' v:D}{ts' ds:List D}{h' a b c:Nat}(hg:zv 12 6 zbk ds (W0 n d dl ks R)=some (.tup [.lst ts',v],W0 n' d' (dl++[v]) ks R))(m':Mk 0 d' ts' h')(q:Dl dl)(mv:Mv a b v)(kk:∀x∈ks,Kp c x)(rb:Rb R):jf ds (W0 n d dl ks R)=some (.tup [.lst ts',v],W0 n' d' (dl++[v]) ks R) :=
 z0e (J:=[]) (by rw[z2y];exact hg) m' q mv kk rb
theorem zni{z f:Int}{c:Nat}(z0:0<=z)(m:Mk 0 d ts h)(hl:ts.length<1000)(hd:dl.length<1000)(q:Dl dl)(kk:∀x∈ks,Kp c x)(k0:0<ks.length)(rb:Rb R)(hc:c<=1000) :
   ∃n' ts' d' h' v,jf [.obj 0,.obj 1,.lst ts,.obj 3,.int z,.int f] (W0 n d dl ks R)=some (.tup [.lst ts',v],W0 n' d' (dl++[v]) ks R)/\Mk 0 d' ts' h'/\Mv ts.length ts'.length v/\(ts'.length<=ts.length+3\/ts'.length<=120\/ts'.length<=c):=by
 have hd2:dl.length<16777216:=by omega
 have hl2:ts.length<=2000:=by omega
 have q0:0<=z/9:=Int.ediv_nonneg z0 (by decide);have head:∀{o':Out}{S':Sto}{c:C},c [some (.obj 0),some (.obj 1),some (.lst ts),some (.obj 3),some (.int (z/9)),some (.int f),some (.int (z%9)),none,none,none,none,none] (W0 n d dl ks R)=some (o',S') ->
     zt (qo 6 (e2 jq (eV 4) (eK (.int 9)))) (zt (qo 4 (e2 zbr (eV 4) (eK (.int 9)))) c) [some (.obj 0),some (.obj 1),some (.lst ts),some (.obj 3),some (.int z),some (.int f),none,none,none,none,none,none] (W0 n d dl ks R)=some (o',S'):=fun hc=>
   ze (zj (e_2 (e_v rfl) e_k (zbe (by decide)))) (ze (zj (e_2 (e_v rfl) e_k (zh5 (by decide)))) hc)
 have cnd:∀(c:Int),zkn (bE (e2 zak (eV 6) (eK (.int c)))) (bE (e2 ze9 (eV 2) (zd7 aN))) [some (.obj 0),some (.obj 1),some (.lst ts),some (.obj 3),some (.int (z/9)),some (.int f),some (.int (z%9)),none,none,none,none,none] (W0 n d dl ks R)=some (decide (z%9=c/\ts≠[]),W0 n d dl ks R):=fun c=>by
   by_cases h1:z%9=c
   · refine(zhh (q8 (e_2 (e_v rfl) e_k ((zps _ _).trans (by rw[z2g h1])))) (q8 (e_2 (e_v rfl) (zcs a_n (z2x _)) (zqn ts)))).trans ?_;congr 2;rw[z3e];exact⟨fun w=>⟨h1,w⟩,fun w=>w.2⟩
   · refine(zny (q8 (e_2 (e_v rfl) e_k ((zps _ _).trans (by rw[z2b h1]))))).trans ?_;rw[z2b (fun q=>h1 q.1)]
 have ce:∀(c:Int),bE (e2 zak (eV 6) (eK (.int c))) [some (.obj 0),some (.obj 1),some (.lst ts),some (.obj 3),some (.int (z/9)),some (.int f),some (.int (z%9)),none,none,none,none,none] (W0 n d dl ks R)=some (decide (z%9=c),W0 n d dl ks R):=fun c=>q8 (e_2 (e_v rfl) e_k (zps _ _));have pos:ts≠[]->0<ts.length:=fun w=>z28.mpr w;have tr:∀{b:Bool}{p:Prop} [Decidable p],p->(some (decide p,W0 n d dl ks R):Option (Bool×Sto))=some (true,W0 n d dl ks R):=fun w=>by rw[z2g w]
 have fl:∀{b:Bool}{p:Prop} [Decidable p],¬ p->(some (decide p,W0 n d dl ks R):Option (Bool×Sto))=some (false,W0 n d dl ks R):=fun w=>by rw[z2b w]
 by_cases c1:z%9=1/\ts≠[]
 · obtain⟨p,hp,cp⟩:=zca (z/9) (pos c1.2);obtain⟨d',h',n',co,m'⟩:=zu8 (n:=n) (ks:=ks) (R:=R) m hl2 hp hd2;have ln:(ts.eraseIdx p).length=ts.length-1:=by rw[List.length_eraseIdx,z2v hp]
   have mv:Mv ts.length (ts.eraseIdx p).length (zxk p):=by rw[ln];exact .out p hp
   exact⟨n',ts.eraseIdx p,d',h',zxk p,zxi (jz rfl (head (qv (qd ((cnd 1).trans (tr (b:=true) c1)) (ze (zj (e_2 (e_v rfl) (e_a (a_c (e_v rfl) a_n) rfl) cp)) (ze (qw (qs (e_v rfl) (qg (S:=W0 n d dl ks R) (i:=1) h1) zu4 (a_c (e_v rfl) a_n) co)) (zq (jr (a_c (zv7 hl2 hp rfl rfl) (a_c (jr (a_c e_k (a_c (e_v rfl) a_n)) (z11 rfl)) a_n)) (z11 rfl))))))))) m' q mv kk rb,m',mv,.inl (by omega)⟩
 by_cases c2:z%9=2/\ts≠[]
 · obtain⟨p,hp,cp⟩:=zca (z/9) (pos c2.2);obtain⟨d',n',co,m'⟩:=zsd (n:=n) (ks:=ks) (R:=R) m hl2 hp (ziq f) hd2;have mv:Mv ts.length (ts.set p (.int f)).length (znl p):=by rw[z3b];exact .swap p hp
   exact⟨n',ts.set p (.int f),d',h,znl p,zxi (jz rfl (head (ze (zm ((cnd 1).trans (fl (b:=true) c1))) (qv (qd ((cnd 2).trans (tr (b:=true) c2)) (ze (zj (e_2 (e_v rfl) (e_a (a_c (e_v rfl) a_n) rfl) cp)) (ze (qw (qs (e_v rfl) (qg (S:=W0 n d dl ks R) (i:=1) h1) zr7 (a_c (e_v rfl) (a_c (e_v rfl) a_n)) co)) (zq (jr (a_c (zrp hl2 hp rfl rfl rfl) (a_c (jr (a_c e_k (a_c (e_v rfl) a_n)) (z11 rfl)) a_n)) (z11 rfl)))))))))) m' q mv kk rb,m',mv,.inl (by rw[z3b];omega)⟩
 have cin:bE (e2 zue (eV 6) (kf (aC (eK (.int 3)) (aC (eK (.int 4)) aN)))) [some (.obj 0),some (.obj 1),some (.lst ts),some (.obj 3),some (.int (z/9)),some (.int f),some (.int (z%9)),none,none,none,none,none] (W0 n d dl ks R)=some (decide (z%9=3\/z%9=4),W0 n d dl ks R):=q8 (e_2 (e_v rfl) (jr (a_c e_k (a_c e_k a_n)) (z11 rfl)) (zzw _));by_cases c3:z%9=3\/z%9=4
 · obtain⟨p,hp,cp⟩:=zfc (z/9) ts.length;obtain⟨e,he,cq⟩:=zfc (z/9/64) (ts.length-p);rw[show((ts.length-p:Nat):Int)+1=(ts.length:Int)+1-(p:Int) by omega]at cq;obtain⟨d',h',n',co,m'⟩:=zlf (n:=n) (ks:=ks) (R:=R) (p:=p) (q:=p+e) m hl2 (by omega) (by omega) hd2;have ln:=zn9 (ts:=ts) (s:=p) (e:=p+e) (by omega) (by omega);have mv:Mv ts.length (turn p (p+e) ts).length (znk p (p+e)):=by rw[ln];exact .turn p (p+e) (by omega) (by omega)
   exact⟨n',turn p (p+e) ts,d',h',znk p (p+e),zxi (jz rfl (head (ze (zm ((cnd 1).trans (fl (b:=true) c1))) (ze (zm ((cnd 2).trans (fl (b:=true) c2))) (qv (qd (cin.trans (tr (b:=true) c3)) (ze (zj (e_2 (e_v rfl) (e_2 (e_a (a_c (e_v rfl) a_n) rfl) e_k (add_int _ _)) cp)) (ze (zj (d:=.int ((p+e:Nat):Int)) (e_2 (e_v rfl) (e_2 (e_2 (e_v rfl) e_k (zh5 (by decide))) (e_2 (e_2 (e_a (a_c (e_v rfl) a_n) rfl) e_k (add_int _ _)) (e_v rfl) (sub_int _ _)) cq) rfl)) (ze (qw (qs (e_v rfl) (qg (S:=W0 n d dl ks R) (i:=1) h1) zk8 (a_c (e_v rfl) (a_c (e_v rfl) a_n)) co)) (zq (jr (a_c (zrh hl2 (by omega) (by omega) rfl rfl rfl) (a_c (jr (a_c e_k (a_c (e_v rfl) (a_c (e_v rfl) a_n))) (z11 rfl)) a_n)) (z11 rfl)))))))))))) m' q mv kk rb,m',mv,.inl (by rw[ln];omega)⟩
 by_cases c5:z%9=5
 · obtain⟨us,d',h',n',J,co,m',lu⟩:=zpc (n:=n) (ks:=ks) (R:=R) (f:=f) q0 m hl hd2;have mv:Mv ts.length (ts++us).length (zfq us.length):=by rw[z13];exact .laid _ (by omega)
   exact⟨n',ts++us,d',h',zfq us.length,z0e (jz rfl (head (ze (zm ((cnd 1).trans (fl (b:=true) c1))) (ze (zm ((cnd 2).trans (fl (b:=true) c2))) (ze (zm (cin.trans (fl (b:=true) c3))) (qv (qd ((ce 5).trans (tr (b:=true) c5)) (zq (zg (a_c (e_v rfl) (a_c (e_v rfl) (a_c (e_v rfl) (a_c (e_v rfl) (a_c (e_v rfl) a_n))))) co))))))))) m' q mv kk rb,m',mv,by rw[z13];omega⟩
 by_cases c6:z%9=6
 · obtain⟨e,he,cq⟩:=zfc (z/9) ts.length;obtain⟨x,y,xh,yh,n',J,co,m',my⟩:=zu9 (n:=n) (ks:=ks) (R:=R) (p:=ts.length-e/2) m hl2 (by omega) hd2;have ln:(ts.take (ts.length-e/2)).length=ts.length-e/2:=by rw[z2d];omega
   have mv:Mv ts.length (ts.take (ts.length-e/2)).length (zxl (ts.length-e/2)):=by rw[ln];exact .cut _ (by omega)
   have e1:yd (.int (ts.length:Int)) (.int ((e:Int)/2))=some (.int ((ts.length-e/2:Nat):Int)):=by rw[sub_int];congr 2;omega
   exact⟨n',ts.take (ts.length-e/2),x,xh,zxl (ts.length-e/2),z0e (jz rfl (head (ze (zm ((cnd 1).trans (fl (b:=true) c1))) (ze (zm ((cnd 2).trans (fl (b:=true) c2))) (ze (zm (cin.trans (fl (b:=true) c3))) (ze (zm ((ce 5).trans (fl (b:=true) c5))) (qv (qd ((ce 6).trans (tr (b:=true) c6)) (ze (zj (e_2 (e_a (a_c (e_v rfl) a_n) rfl) (e_2 (e_2 (e_v rfl) (e_2 (e_a (a_c (e_v rfl) a_n) rfl) e_k (add_int _ _)) cq) e_k (zh5 (by decide))) e1)) (ze (qw (qs (e_v rfl) (qg (S:=W0 n d dl ks R) (i:=1) h1) zu6 (a_c (e_v rfl) a_n) co)) (zq (jr (a_c (znd (e_v rfl) p_n (p_e (e_v rfl)) (zk9 _)) (a_c (jr (a_c e_k (a_c (e_v rfl) a_n)) (z11 rfl)) a_n)) (z11 rfl))))))))))))) m' q mv kk rb,m',mv,.inl (by rw[ln];omega)⟩
 have c7:bE (e2 zak (e2 jq (eV 4) (eK (.int 2))) (eK (.int 0))) [some (.obj 0),some (.obj 1),some (.lst ts),some (.obj 3),some (.int (z/9)),some (.int f),some (.int (z%9)),none,none,none,none,none] (W0 n d dl ks R)=some (decide (z/9%2=0),W0 n d dl ks R):=q8 (e_2 (e_2 (e_v rfl) e_k (zbe (by decide))) e_k (zps _ _));have put:∀(cc:zkn (bE (e2 zak (eV 6) (eK (.int 7)))) (bE (e2 zak (e2 jq (eV 4) (eK (.int 2))) (eK (.int 0)))) [some (.obj 0),some (.obj 1),some (.lst ts),some (.obj 3),some (.int (z/9)),some (.int f),some (.int (z%9)),none,none,none,none,none] (W0 n d dl ks R)=some (false,W0 n d dl ks R)),∃n' ts' d' h' v,jf [.obj 0,.obj 1,.lst ts,.obj 3,.int z,.int f] (W0 n d dl ks R)=some (.tup [.lst ts',v],W0 n' d' (dl++[v]) ks R)/\Mk 0 d' ts' h'/\Mv ts.length ts'.length v/\(ts'.length<=ts.length+3\/ts'.length<=120\/ts'.length<=c):=fun cc=>by
   obtain⟨p,d',h',n',hp,co,m'⟩:=zj1 (n:=n) (ks:=ks) (R:=R) (f:=f) (z:=z/9) m (by omega) hd2;have ln:=zhv (ts:=ts) (x:=.int f) p;have mv:Mv ts.length (ts.take p++.int f::ts.drop p).length (zt2 p):=by rw[ln];exact .put p hp
   exact⟨n',_,d',h',zt2 p,zxi (jz rfl (head (ze (zm ((cnd 1).trans (fl (b:=true) c1))) (ze (zm ((cnd 2).trans (fl (b:=true) c2))) (ze (zm (cin.trans (fl (b:=true) c3))) (ze (zm ((ce 5).trans (fl (b:=true) c5))) (ze (zm ((ce 6).trans (fl (b:=true) c6))) (ze (zm cc) (zq (zg (a_c (e_v rfl) (a_c (e_v rfl) (a_c (e_v rfl) (a_c (e_v rfl) a_n)))) co)))))))))) m' q mv kk rb,m',mv,.inl (by rw[ln];omega)⟩
 by_cases e7:z%9=7
 · by_cases e8:z/9%2=0
   · obtain⟨p,hp,cp⟩:=zca (z/9/2) (c:=ks.length) k0;obtain⟨md,us,g,ex,mm,lu⟩:=kk _ (z4d hp);have hix:qj (W0 n d dl ks R) (.obj 3) (.int p)=some (.tup [md,.lst us]):=(zd3 (z19 hp)).trans (by rw[ex]);have co:=zse (n:=n) (d:=d) (ks:=ks) (R:=R) (dl:=dl) mm hd2;exact⟨n,us,md,g,zpu us.length,zxi (jz rfl (head (ze (zm ((cnd 1).trans (fl (b:=true) c1))) (ze (zm ((cnd 2).trans (fl (b:=true) c2))) (ze (zm (cin.trans (fl (b:=true) c3))) (ze (zm ((ce 5).trans (fl (b:=true) c5))) (ze (zm ((ce 6).trans (fl (b:=true) c6))) (qv (qd ((zhh ((ce 7).trans (tr (b:=true) e7)) c7).trans (tr (b:=true) e8)) (ze (zk0 (qm (e_v rfl) (e_2 (e_2 (e_v rfl) e_k (zh5 (by decide))) (e_a (a_c (e_v rfl) a_n) rfl) cp) hix)) (ze (qw (qs (e_v rfl) (qg (S:=W0 n d dl ks R) (i:=1) h1) zsa (a_c (e_v rfl) a_n) co)) (zq (jr (a_c (zff (e_v rfl)) (a_c (jr (a_c e_k (a_c (e_a (a_c (e_v rfl) a_n) rfl) a_n)) (z11 rfl)) a_n)) (z11 rfl)))))))))))))) mm q (.back (a:=ts.length) _ (by omega)) kk rb,mm,.back _ (by omega),.inr (.inr lu)⟩
   · exact put ((zhh ((ce 7).trans (tr (b:=true) e7)) c7).trans (fl (b:=true) e8))
 · exact put (zny ((ce 7).trans (fl (b:=true) e7)))
end Pg
namespace Pg
open PySem L2 F Mt
variable {d d0 l r t x y o st v:D}{ts us dl ks rt ws:List D}{h i j g rh:Nat}{n:Int}{S S0 S1 R J:Sto}{ev:Ev}{p m:Nat}
theorem zon{c txt nm:Str}{a:As}{ds:List D}{ps:List PyData}(h:a ev S=some ([.tup ds],S1))(hp:zj0 ds=some ps)(ho:zbs txt ps=true):ze7 c txt nm a ev S=some (c,S1++[.xd nm (.tup ds)]):=by simp only[ze7,h,Option.bind_some,hp,z2v ho]
theorem zis{c:B}{a b:C}(h:c ev S=some (true,S1))(q:a ev S1=none):sIf c a b ev S=none:=by simp[sIf,h,q]
theorem zru{c:B}{a b:C}(h:c ev S=some (false,S1))(q:b ev S1=none):sIf c a b ev S=none:=by simp[sIf,h,q]
theorem zpe{s:Nat}{m0 k0:Int}:(kfs s d m0 k0).lookup ("shelf":Str)=some (.obj s):=by simp[kfs,List.lookup]
theorem zwo{s:Nat}{m0 k0:Int}:(kfs s d m0 k0).lookup ("met":Str)=some (.int m0):=by simp[kfs,List.lookup,wn2,wn3]
theorem zzu{s:Nat}{m0 k0:Int}:(kfs s d m0 k0).lookup ("new_deeds":Str)=none:=zpf (by decide +kernel) (by decide +kernel) (by decide +kernel) (by decide +kernel)
def U(n:Int)(d:D)(dl ks:List D)(R:Sto)(st:D)(m p:Nat)(J:Sto):Sto:=W0 n d dl ks (R++wkr 1 st m p::J)
theorem uat:(U n d dl ks R st m p J)[R.length+4]? = some (wkr 1 st m p):=zn6 _ _
theorem uh1:(U n d dl ks R st m p J)[1]? = some (shf d 2):=rfl
theorem uh2:(U n d dl ks R st m p J)[2]? = some (.lst dl):=rfl
theorem zk3{e:E}{q:Nat}{fs:List (Str×D)}{f:Str}(he:ev[q]? = some (some (.obj (R.length+4))))(hv:e ev (W0 n d dl ks (R++.ins "Strict" fs::J))=some (x,W0 n d dl ks (R++.ins "Strict" fs::J)))(hl:fs.length<1000) :
   j9 "Strict" f (eV q) e ev (W0 n d dl ks (R++.ins "Strict" fs::J))=some (.nx ev,W0 n d dl ks (R++.ins "Strict" (zd5 f x fs)::J)):=by
 have hi:ki "Strict" (W0 n d dl ks (R++.ins "Strict" fs::J)) (.obj (R.length+4))=some (R.length+4,fs):=by simp[ki,zn6]
 simp only[j9,hv,Option.bind_some,e_v he,hi,z2v hl,zp5]
theorem zza:zd5 "stood" x [("shelf",y)]=([("shelf",y),("stood",x)]:List (Str×D)):=by
 have e:¬ (("shelf":Str)="stood"):=by decide +kernel
 simp[zd5,e]
theorem zy9:zd5 "met" x [("shelf",y),("stood",d)]=([("shelf",y),("stood",d),("met",x)]:List (Str×D)):=by
 have e1:¬ (("shelf":Str)="met"):=by decide +kernel
 have e2:¬ (("stood":Str)="met"):=by decide +kernel
 simp[zd5,e1,e2]
theorem zy8:zd5 "mark" x [("shelf",y),("stood",d),("met",t)]=([("shelf",y),("stood",d),("met",t),("mark",x)]:List (Str×D)):=by
 have e1:¬ (("shelf":Str)="mark"):=by decide +kernel
 have e2:¬ (("stood":Str)="mark"):=by decide +kernel
 have e3:¬ (("met":Str)="mark"):=by decide +kernel
 simp[zd5,e1,e2,e3]
theorem zy7{k0:Int}:zd5 "mark" (.int k0) (kfs 1 d m p)=kfs 1 d m k0:=by
 have e1:¬ (("shelf":Str)="mark"):=by decide +kernel
 have e2:¬ (("stood":Str)="mark"):=by decide +kernel
 have e3:¬ (("met":Str)="mark"):=by decide +kernel
 simp[kfs,zd5,e1,e2,e3]
theorem ze0{f:E}(hf:f ev (W0 n d dl ks R)=some (.obj 1,W0 n d dl ks R)):zaf "Strict" qz (aC f aN) ev (W0 n d dl ks R)=some (.obj (R.length+4),U n d dl ks R d dl.length 0 []):=by
 have hh:∀{fs:List (Str×D)},(W0 n d dl ks (R++.ins "Strict" fs::[]))[1]? = some (shf d 2):=rfl;have a1:j9 "Strict" "shelf" (eV 0) (eV 1) [some (.obj (R.length+4)),some (.obj 1)] (W0 n d dl ks (R++.ins "Strict" []::[]))=some (.nx [some (.obj (R.length+4)),some (.obj 1)],W0 n d dl ks (R++.ins "Strict" [("shelf",.obj 1)]::[])):=zk3 rfl (e_v rfl) (show 0<1000 by decide);have a2:j9 "Strict" "stood" (eV 0) (qc "Shelf" "make" jc (eV 1) aN) [some (.obj (R.length+4)),some (.obj 1)] (W0 n d dl ks (R++.ins "Strict" [("shelf",.obj 1)]::[]))=some (.nx [some (.obj (R.length+4)),some (.obj 1)],W0 n d dl ks (R++.ins "Strict" [("shelf",.obj 1),("stood",d)]::[])):=by rw[<-zza];exact zk3 rfl (zi9 (j:=2) rfl hh) (show 1<1000 by decide)
 have a3:j9 "Strict" "met" (eV 0) (eA zas (aC (qc "Shelf" "deeds" x4 (eV 1) aN) aN)) [some (.obj (R.length+4)),some (.obj 1)] (W0 n d dl ks (R++.ins "Strict" [("shelf",.obj 1),("stood",d)]::[]))=some (.nx [some (.obj (R.length+4)),some (.obj 1)],W0 n d dl ks (R++.ins "Strict" [("shelf",.obj 1),("stood",d),("met",.int dl.length)]::[])):=by rw[<-zy9];exact zk3 rfl (e_a (a_c (zt1 (i:=1) (d:=d) (j:=2) (dl:=dl) rfl hh rfl) a_n) rfl) (show 2<1000 by decide)
 have a4:j9 "Strict" "mark" (eV 0) (eK (.int 0)) [some (.obj (R.length+4)),some (.obj 1)] (W0 n d dl ks (R++.ins "Strict" [("shelf",.obj 1),("stood",d),("met",.int dl.length)]::[]))=some (.nx [some (.obj (R.length+4)),some (.obj 1)],W0 n d dl ks (R++.ins "Strict" [("shelf",.obj 1),("stood",d),("met",.int dl.length),("mark",.int 0)]::[])):=by rw[<-zy8];exact zk3 rfl e_k (show 3<1000 by decide)
 have ci:qz [.obj (R.length+4),.obj 1] (W0 n d dl ks R++[.ins "Strict" []])=some (.non,U n d dl ks R d dl.length 0 []) :=
   zkl rfl (ze a1 (ze a2 (ze a3 a4)))
 have e0:(W0 n d dl ks R).length=R.length+4:=rfl;simp only[zaf,a_c hf a_n,Option.bind_some,e0,ci]
theorem zzl(hm:m<=dl.length):jm [.obj (R.length+4)] (U n d dl ks R st m p J)=some (.lst (dl.drop m),U n d dl ks R st m p J) :=
 jz rfl (zq (znd (qs (zdv (e_v rfl) (qk uat) zpe) (qg uh1) zit a_n (jz rfl (zq (zme (zdv (e_v rfl) (qg uh1) zhs) uh2)))) (p_e (zdv (e_v rfl) (qk uat) zwo)) p_n (zc5 hm)))
theorem zya{q:Nat}(he:ev[q]? = some (some (.obj (R.length+4))))(hm:m<=dl.length):qc "Strict" "new_deeds" jm (eV q) aN ev (U n d dl ks R st m p J)=some (.lst (dl.drop m),U n d dl ks R st m p J) :=
 qs (e_v he) (qk uat) zzu a_n (zzl hm)
theorem zja(us:List D)(S:Sto):e2 zfa (eA zas (aC (eV 1) aN)) (eK (.int 0)) [some x,some (.lst us)] S=some (.bl (decide (0<us.length)),S):=by refine e_2 (e_a (a_c (e_v rfl) a_n) (d:=.int (us.length:Int)) rfl) e_k ?_;rw[z1q];congr 2;rw[z3e];omega
theorem zz3(w c:Int):zl4 (.int w) (.int c)=some (.bl (decide (c<=w))):=rfl
theorem zvg(hm:m=dl.length):xg [.obj (R.length+4)] (U n d dl ks R st m p J)=some (st,U n d dl ks R st m p J):=by
 have e:dl.drop m=[]:=by rw[hm,z5s]
 have nd:=zya (n:=n) (d:=d) (ks:=ks) (st:=st) (p:=p) (J:=J) (ev:=[some (.obj (R.length+4)),none]) (q:=0) rfl (z5t hm);rw[e]at nd;exact jz rfl (ze (zj nd) (ze (zm (q8 (zja [] _))) (zq (zdv (e_v rfl) (qk uat) zpd))))
theorem zof{q:Nat}(he:ev[q]? = some (some (.obj (R.length+4))))(hm:m=dl.length):qc "Strict" "row" xg (eV q) aN ev (U n d dl ks R st m p J)=some (st,U n d dl ks R st m p J) :=
 qs (e_v he) (qk uat) zeo a_n (zvg hm)
theorem zog(hm:m=dl.length):jt [.obj (R.length+4)] (U n d dl ks R st m p J)=none:=by
 have e:dl.drop m=[]:=by rw[hm,z5s]
 have nd:=zya (n:=n) (d:=d) (ks:=ks) (st:=st) (p:=p) (J:=J) (ev:=[some (.obj (R.length+4)),none]) (q:=0) rfl (z5t hm);rw[e]at nd;exact(zci (n:=1) rfl).trans ((zsj (zj nd)).trans ((zqd (q8 (zja [] _))).trans rfl))
def Shw(v:D):Prop:=∃ds ps,v=.tup ds/\zj0 ds=some ps/\zbs (Str.ofString "the shelf has changed: ") ps=true
theorem zq3(hm:m<dl.length)(hv:dl[m]=v):dl.drop m=v::dl.drop (m+1):=by rw[z3o hm,hv]
theorem ziz(hm:m<dl.length):xg [.obj (R.length+4)] (U n d dl ks R st m p J)=none:=by have nd:=zya (n:=n) (d:=d) (ks:=ks) (st:=st) (p:=p) (J:=J) (ev:=[some (.obj (R.length+4)),none]) (q:=0) rfl (z3u hm);rw[zq3 hm rfl]at nd;exact zd2 (zgf (zj nd) (zbo (ze1 (q8 (zja _ _)))))
theorem zvf(hm:m<dl.length)(hv:dl[m]=v)(sh:Shw v):jt [.obj (R.length+4)] (U n d dl ks R st m p J)=some (Str.ofString "Changed",U n d dl ks R st m p J++[MO.xd "deed" v]):=by obtain⟨ds,ps,rfl,h1,h2⟩:=sh;have nd:=zya (n:=n) (d:=d) (ks:=ks) (st:=st) (p:=p) (J:=J) (ev:=[some (.obj (R.length+4)),none]) (q:=0) rfl (z3u hm);rw[zq3 hm hv]at nd;refine(zci (n:=1) rfl).trans ((zsj (zj nd)).trans ((zgi (q8 (zja _ _))).trans (zon (a_c (qm (e_v rfl) e_k (show qj _ (.lst (D.tup ds::dl.drop (m+1))) (.int 0)=some (D.tup ds)from zd3 (xs:=D.tup ds::dl.drop (m+1)) (j:=0) rfl)) a_n) h1 h2)))
theorem zs8(hm:m=dl.length)(mk:Mk 0 st ws g):xz [.obj (R.length+4)] (U n d dl ks R st m p J)=some (.bl (decide (p<ws.length)),U n d dl ks R st m p J):=by refine jz rfl (ze (zj (zof rfl hm)) (zq (e_2 (zdv (e_v rfl) (qk uat) zmj) (zg (a_c (e_v rfl) a_n) (ja mk _)) ((zzn _ _).trans ?_))));congr 2;rw[z3e];omega
theorem zma(hm:m<dl.length):xz [.obj (R.length+4)] (U n d dl ks R st m p J)=none :=
 zd2 (zbo (zbn (yp (e_v rfl) (qk uat) zeo a_n (ziz hm))))
theorem zwh(hm:m<dl.length)(hv:dl[m]=v)(sh:Shw v):xm [.obj (R.length+4)] (U n d dl ks R st m p J)=some (Str.ofString "Changed",U n d dl ks R st m p J++[MO.xd "deed" v]) :=
 (zci (n:=1) rfl).trans ((zc7 (e_v rfl) (qk uat) zeo a_n).trans (zvf hm hv sh))
theorem zgo{q:Nat}(he:ev[q]? = some (some (.obj (R.length+4)))):yw "Strict" "mark" (eV q) ev (U n d dl ks R st m p J)=some (.int p,U n d dl ks R st m p J):=zdv (e_v he) (qk uat) zmj
theorem zrs(hm:m=dl.length)(mk:Mk 0 st ws g)(hl:ws.length<=2000)(hp:p<ws.length):xn [.obj (R.length+4)] (U n d dl ks R st m p J)=some (ws[p],U n d dl ks R st m (p+1) J):=by
 have s1:j9 "Strict" "mark" (eV 0) (e2 zz (yw "Strict" "mark" (eV 0)) (eK (.int 1))) [some (.obj (R.length+4)),some st,some ws[p]] (U n d dl ks R st m p J)=some (.nx [some (.obj (R.length+4)),some st,some ws[p]],U n d dl ks R st m (p+1) J):=by have:=zk3 (n:=n) (d:=d) (dl:=dl) (ks:=ks) (R:=R) (J:=J) (ev:=[some (.obj (R.length+4)),some st,some ws[p]]) (q:=0) (fs:=kfs 1 st m p) (f:="mark") (e:=e2 zz (yw "Strict" "mark" (eV 0)) (eK (.int 1))) rfl (e_2 (zgo rfl) e_k (add_int _ _)) (show 4<1000 by decide);rw[zy7]at this;exact this
 exact jz rfl (ze (zj (zof rfl hm)) (ze (zm (q8 (e_2 (zgo rfl) (zg (a_c (e_v rfl) a_n) (ja mk _)) ((zz3 _ _).trans (by rw[z2b (by omega)]))))) (ze (zj (zg (a_c (e_v rfl) (a_c (zgo rfl) a_n)) (zxx mk hl (z19 hp) _))) (ze s1 (zq (e_v rfl))))))
theorem zod(hm:m=dl.length)(mk:Mk 0 st ws g)(hp:ws.length<=p):xn [.obj (R.length+4)] (U n d dl ks R st m p J)=none :=
 zd2 (zgf (zj (zof rfl hm)) (zbo (ze1 (q8 (e_2 (zgo rfl) (zg (a_c (e_v rfl) a_n) (ja mk _)) ((zz3 _ _).trans (by rw[z2g (by omega)])))))))
theorem zrr(hm:m=dl.length)(mk:Mk 0 st ws g)(hp:ws.length<=p):ju [.obj (R.length+4)] (U n d dl ks R st m p J)=some (Str.ofString "NoMore",U n d dl ks R st m p J) :=
 (zci (n:=1) rfl).trans ((zy2 ((zc7 (e_v rfl) (qk uat) zeo a_n).trans (zog hm))).trans ((zsj (zj (zof rfl hm))).trans ((zgi (q8 (e_2 (zgo rfl) (zg (a_c (e_v rfl) a_n) (ja mk _)) ((zz3 _ _).trans (by rw[z2g (by omega)]))))).trans (zlr (a_c e_k a_n) (z11 rfl)))))
theorem zkz(hm:m<dl.length):xn [.obj (R.length+4)] (U n d dl ks R st m p J)=none :=
 zd2 (zbo (zbn (yp (e_v rfl) (qk uat) zeo a_n (ziz hm))))
theorem zux(hm:m<dl.length)(hv:dl[m]=v)(sh:Shw v):ju [.obj (R.length+4)] (U n d dl ks R st m p J)=some (Str.ofString "Changed",U n d dl ks R st m p J++[MO.xd "deed" v]) :=
 (zci (n:=1) rfl).trans (zy3 ((zc7 (e_v rfl) (qk uat) zeo a_n).trans (zvf hm hv sh)))
theorem zrg{b:Nat}{m0 k0:Int}(hb:1<b)(hd:bnd 0 st=true):zie b (wkr 1 st m0 k0)=true:=by show(bnd b (.obj 1)&&(bnd b st&&(bnd b (.int m0)&&(bnd b (.int k0)&&true))))=true;rw[zjo hd];simp[bnd];omega
def Wks(R:Sto):Prop:=∀z∈R,∃st m p ws g,z=wkr 1 st m p/\Mk 0 st ws g
theorem Wks.rb(w:Wks R):Rb R:=fun z hz=>by obtain⟨st,m,p,ws,g,rfl,mk⟩:=w z hz;exact zrg (by omega) (Mk.bnd0 mk)
theorem Wks.with_{R J:Sto}{p:Int}(w:Wks R)(q:Wks J)(mk:Mk 0 st ws g):Wks (R++wkr 1 st m p::J):=fun z hz=>by
 rcases z32.mp hz with h | h
 · exact w z h
 · rcases z2l.mp h with rfl | h
   · exact⟨_,_,_,_,_,rfl,mk⟩
   · exact q z h
theorem Wks.nil:Wks []:=fun _ hz=>by cases hz
theorem zz4{gg:G}{ds:List D}{S':Sto}(h:Thing 0 x)(hS:SB S')(hl:S'.length=S.length)(hg:gg ds S=some (x,S')):frz gg ds S=some (x,S'):=by
 unfold frz;rw[hg];have e1:S'.take S.length=S':=by rw[<-hl];exact z40
 have e2:S'.all (zie S.length)=true:=z2p.mpr (by rw[<-hl];exact hS);rcases h with⟨i,rfl⟩ | ⟨z,rfl,_⟩
 · simp only[Option.bind_some,e1,e2,z37,bnd]
 · simp only[Option.bind_some,e1,e2,z37,bnd]
theorem zz5{gg:G}{ds:List D}{b:Bool}(hS:SB S)(hg:gg ds S=some (.bl b,S)):frz gg ds S=some (.bl b,S):=by unfold frz;rw[hg];have e2:S.all (zie S.length)=true:=z2p.mpr hS;simp only[Option.bind_some,z40,e2,z37,bnd]
theorem usb{b:Nat}{p:Int}(mh:Mk 0 d us h)(q:Dl dl)(kk:∀x∈ks,Kp b x)(w:Wks R)(w2:Wks J)(mk:Mk 0 st ws g):SB (W0 n d dl ks (R++wkr 1 st m p::J)):=zuo mh q kk (w.with_ w2 mk).rb
theorem zep{b:Nat}(mh:Mk 0 d us h)(q:Dl dl)(kk:∀x∈ks,Kp b x)(w:Wks R)(w2:Wks J)(hm:m=dl.length)(mk:Mk 0 st ws g):qh [.obj (R.length+4),.bl false] (U n d dl ks R st m p J)=some (.bl (decide (p<ws.length)),U n d dl ks R st m p J) :=
 zz5 (usb mh q kk w w2 mk) (jz rfl (ze (zj e_k) (ze (zk1 (zuy (q8 (e_v rfl)) (zj (qs (e_v rfl) (qk uat) zhz a_n (zs8 hm mk))))) (zq (e_v rfl)))))
theorem zkd{b:Nat}(mh:Mk 0 d us h)(q:Dl dl)(kk:∀x∈ks,Kp b x)(w:Wks R)(w2:Wks J)(hm:m=dl.length)(mk:Mk 0 st ws g)(hl:ws.length<=2000)(hp:p<ws.length):qh [.obj (R.length+4),.bl true] (U n d dl ks R st m p J)=some (ws[p],U n d dl ks R st m (p+1) J) :=
 zz4 (mk.things _ (z4d hp)) (usb mh q kk w w2 mk) (by simp[U,W0]) (jz rfl (ze (zj e_k) (ze (zk1 (qd (q8 (e_v rfl)) (zj (qs (e_v rfl) (qk uat) zdh a_n (zrs hm mk hl hp))))) (zq (e_v rfl)))))
theorem zzz{a c:C}:(hAs (zex ct_Changed) (some 3) a (zex no_Changed) (hAs (zex ct_NoMore) (some 3) c (zex no_NoMore) hNo)) (Str.ofString "NoMore")=some (some 3,c):=by
 have e1:zex ct_Changed (Str.ofString "NoMore")=false:=by decide +kernel
 have e2:zex no_Changed (Str.ofString "NoMore")=true:=by decide +kernel
 have e3:zex ct_NoMore (Str.ofString "NoMore")=true:=by decide +kernel
 simp[hAs,e1,e2,e3]
theorem zz0{f:Str->Option (Option Nat×C)}{a:C}:(hAs (zex ct_Changed) (some 3) a (zex no_Changed) f) (Str.ofString "Changed")=some (some 3,a):=by
 have e1:zex ct_Changed (Str.ofString "Changed")=true:=by decide +kernel
 simp[hAs,e1]
theorem zmt{b:Nat}(mh:Mk 0 d us h)(q:Dl dl)(kk:∀x∈ks,Kp b x)(w:Wks R)(w2:Wks J)(hm:m=dl.length)(mk:Mk 0 st ws g)(hp:ws.length<=p):qh [.obj (R.length+4),.bl true] (U n d dl ks R st m p J)=some (.lst [.str (Str.ofString "none"),.bl true,.bl false],U n d dl ks R st m p J):=by
 have l5:(U n d dl ks R st m p J++[zh3 (Str.ofString "NoMore") (U n d dl ks R st m p J).length])[(U n d dl ks R st m p J).length]? = some (.exc (Str.ofString "NoMore")):=by
   have:zh3 (Str.ofString "NoMore") (U n d dl ks R st m p J).length=.exc (Str.ofString "NoMore"):=by unfold zh3;rw[z2w (by decide +kernel)]
   rw[this];simp
 refine zmz (J:=[zh3 (Str.ofString "NoMore") (U n d dl ks R st m p J).length]) (usb mh q kk w w2 mk) (jz rfl (ze (zj e_k) (ze (zk2 (zis (q8 (e_v rfl)) (zbn (yp (e_v rfl) (qk uat) zdh a_n (zod hm mk hp)))) ((zgi (q8 (e_v rfl))).trans ((zc7 (e_v rfl) (qk uat) zdh a_n).trans (zrr hm mk hp))) zzz (ze (zj (e_a (a_c (e_v rfl) (a_c (jr (a_c e_k (a_c e_k (a_c e_k (a_c e_k (a_c e_k (a_c e_k (a_c e_k (a_c e_k (a_c e_k (a_c e_k a_n)))))))))) (z11 rfl)) a_n)) (isx (b:=false) l5 ?_))) (zj (zcs (a_c e_k (a_c (zng (e_a (a_c (e_v rfl) (a_c e_k a_n)) (isx (b:=true) l5 ?_)) (e_a (a_c (e_v rfl) (a_c e_k a_n)) (isx (b:=true) l5 ?_))) (a_c (e_v rfl) a_n))) (z11 rfl))))) (zq (e_v rfl))))) rfl
 all_goals decide +kernel
theorem zfg{b:Nat}{s:Bool}(mh:Mk 0 d us h)(q:Dl dl)(kk:∀x∈ks,Kp b x)(w:Wks R)(w2:Wks J)(mk:Mk 0 st ws g)(hm:m<dl.length)(hv:dl[m]=v)(sh:Shw v):qh [.obj (R.length+4),.bl s] (U n d dl ks R st m p J)=some (.lst [v,.bl true,.bl true,.bl false],U n d dl ks R st m p J):=by
 have lS:(U n d dl ks R st m p J++[MO.xd "deed" v]).length=(U n d dl ks R st m p J).length+1:=by simp
 have ex:zh3 (Str.ofString "Changed") (U n d dl ks R st m p J++[MO.xd "deed" v]).length=.xc (Str.ofString "Changed") (U n d dl ks R st m p J).length:=by unfold zh3;rw[z2v (by decide +kernel),lS];rfl
 have l5:(U n d dl ks R st m p J++[MO.xd "deed" v]++[zh3 (Str.ofString "Changed") (U n d dl ks R st m p J++[MO.xd "deed" v]).length])[(U n d dl ks R st m p J++[MO.xd "deed" v]).length]? = some (.xc (Str.ofString "Changed") (U n d dl ks R st m p J).length):=by rw[ex];simp
 have l4:(U n d dl ks R st m p J++[MO.xd "deed" v]++[zh3 (Str.ofString "Changed") (U n d dl ks R st m p J++[MO.xd "deed" v]).length])[(U n d dl ks R st m p J).length]? = some (.xd "deed" v):=by simp
 obtain⟨ds,ps,rfl,sh1,sh2⟩:=id sh;have bv:bnd 0 (.tup ds)=true:=(q _ (hv▸z4d hm)).1;have body:(sIf (bE (eV 1)) (qo 2 (qc "Strict" "step" xn (eV 0) aN)) (qo 2 (qc "Strict" "more" xz (eV 0) aN))) [some (.obj (R.length+4)),some (.bl s),some .non,none,none] (U n d dl ks R st m p J)=none:=by
   cases s with
   |true=>exact zis (q8 (e_v rfl)) (zbn (yp (e_v rfl) (qk uat) zdh a_n (zkz hm)))
   |false=>exact zru (q8 (e_v rfl)) (zbn (yp (e_v rfl) (qk uat) zhz a_n (zma hm)))
 have rais:(rIf (bE (eV 1)) (zc8 "Strict" "step" ju (eV 0) aN) (zc8 "Strict" "more" xm (eV 0) aN)) [some (.obj (R.length+4)),some (.bl s),some .non,none,none] (U n d dl ks R st m p J)=some (Str.ofString "Changed",U n d dl ks R st m p J++[MO.xd "deed" (.tup ds)]):=by
   cases s with
   |true=>exact(zgi (q8 (e_v rfl))).trans ((zc7 (e_v rfl) (qk uat) zdh a_n).trans (zux hm hv sh))
   |false=>exact(zqd (q8 (e_v rfl))).trans ((zc7 (e_v rfl) (qk uat) zhz a_n).trans (zwh hm hv sh))
 refine zmz (J:=[MO.xd "deed" (.tup ds)]++[zh3 (Str.ofString "Changed") (U n d dl ks R st m p J++[MO.xd "deed" (.tup ds)]).length]) (usb mh q kk w w2 mk) ?_ ?_
 · rw[<-List.append_assoc];refine jz rfl (ze (zj e_k) (ze (zk2 body rais zz0 (ze (zj (e_a (a_c (e_v rfl) (a_c (jr (a_c e_k (a_c e_k (a_c e_k (a_c e_k (a_c e_k (a_c e_k (a_c e_k (a_c e_k (a_c e_k (a_c e_k a_n)))))))))) (z11 rfl)) a_n)) (zzv (b:=false) l5 ?_))) (zj (zcs (a_c (zq1 (e_v rfl) l5 l4) (a_c (e_a (a_c (zq1 (e_v rfl) l5 l4) (a_c e_k a_n)) rfl) (a_c (zng (e_a (a_c (e_v rfl) (a_c e_k a_n)) (zzv (b:=true) l5 ?_)) (e_a (a_c (e_v rfl) (a_c e_k a_n)) (zzv (b:=true) l5 ?_))) (a_c (e_v rfl) a_n)))) (z11 rfl))))) (zq (e_v rfl))))
   all_goals decide +kernel
 · show(bnd _ (.tup ds)&&(bnd _ (.bl true)&&(bnd _ (.bl true)&&(bnd _ (.bl false)&&true))))=true;rw[zjo bv];rfl
end Pg
namespace Pg
open PySem L2 F
noncomputable section
def zxt:C :=
 (zt (qo 1 (e2 jq (zk qb (aC (eV 0) (aC (eK (.int 0)) aN))) (eK (.int 15)))) (zt (sIf (bE (e2 zak (e2 jq (zk qb (aC (eV 0) (aC (eK (.int 1)) aN))) (eK (.int 8))) (eK (.int 3)))) (qo 1 (eK (.int 60))) j8) (zt (qo 2 (zev [] (eV 1) (e2s qj (zd7 (aC (e2 yd (eV 0) (eK (.int 2))) (aC (eK (.str (Str.ofString ""))) aN))) (eA zug (aC (e2 zak (eV 0) (eK (.int 1))) aN))))) (zt (qo 3 (zaf "Wood" (znj 1 jg) aN)) (zt (qo 4 (zaf "Shelf" z5 (aC (eV 3) (aC (yu (aC (eV 2) aN)) aN)))) (zt (qo 5 (zfn (aC (kf (aC (qc "Shelf" "make" jc (eV 4) aN) (aC (yu (aC (eV 2) aN)) aN))) aN))) (zt (zjx 6 (e2 jq (zk qb (aC (eV 0) (aC (eK (.int 2)) aN))) (eK (.int 4))) (zt (qo 2 (e2s qj (zk jf (aC (eV 3) (aC (eV 4) (aC (eV 2) (aC (eV 5) (aC (zk qb (aC (eV 0) (aC (e2 zz (eK (.int 10)) (eV 6)) aN))) (aC (e2 zz (eK (.int 5000)) (e2 ye (eK (.int 10)) (eV 6))) aN))))))) (eK (.int 0)))) (yk (eV 5) (kf (aC (qc "Shelf" "make" jc (eV 4) aN) (aC (yu (aC (eV 2) aN)) aN)))))) (zt (qo 7 (zaf "Strict" qz (aC (eV 4) aN))) (zt (sIf (bOr (zhi (bE (eA (zww "Strict" "Walker" true) (aC (eV 7) (aC (eK (.fn "Walker")) aN))))) (zhi (bE (zk xy (aC (eV 7) (aC (eV 2) (aC (e2 jq (zk qb (aC (eV 0) (aC (eK (.int 3)) aN))) (e2 zz (eA zas (aC (eV 2) aN)) (eK (.int 3)))) aN))))))) (qx (eK (.bl false))) j8) (zt (sIf (zhi (bE (zk kd (aC (eV 4) (aC (e2 zz (e2 zz (eA zas (aC (eV 2) aN)) (eK (.int 1))) (e2 jq (zk qb (aC (eV 0) (aC (eK (.int 4)) aN))) (eK (.int 3)))) aN))))) (qx (eK (.bl false))) j8) (zt (sIf (bE (e2 ze9 (zk qh (aC (zaf "Strict" qz (aC (eV 4) aN)) (aC (eK (.bl false)) aN))) (e2 ze9 (eV 2) (zd7 aN)))) (qx (eK (.bl false))) j8) (zt (qo 8 (eK .non)) (zt (zjx 6 (e2 zz (eK (.int 1)) (e2 jq (zk qb (aC (eV 0) (aC (eK (.int 5)) aN))) (eK (.int 4)))) (zt (zud [2,9] (zk jf (aC (eV 3) (aC (eV 4) (aC (eV 2) (aC (eV 5) (aC (zk qb (aC (eV 0) (aC (e2 zz (eK (.int 30)) (eV 6)) aN))) (aC (e2 zz (eK (.int 7000)) (e2 ye (eK (.int 10)) (eV 6))) aN)))))))) (zt (sIf (bE (e2 zd6 (eV 8) (eK .non))) (qo 8 (eV 9)) j8) (zt (qo 10 (e2 zak (e2 jq (zk qb (aC (eV 0) (aC (e2 zz (eK (.int 40)) (eV 6)) aN))) (eK (.int 2))) (eK (.int 0)))) (zlk 11 (zd7 (aC (eV 10) (aC (zuj (eV 10)) (aC (eV 10) aN)))) (sIf (bE (e2 ze9 (zk qh (aC (eV 7) (aC (eV 11) aN))) (zd7 (aC (eV 8) (aC (eK (.bl true)) (aC (eK (.bl true)) (aC (eK (.bl false)) aN))))))) (qx (eK (.bl false))) j8)))))) (qx (zuk (zk xy (aC (zaf "Strict" qz (aC (eV 4) aN)) (aC (eV 2) (aC (eA zyc (aC (e2 zz (eA zas (aC (eV 2) aN)) (eK (.int 1))) (aC (eK (.int 20)) aN))) aN)))) (e2 zak (qc "Shelf" "things" ke (eV 4) aN) (eV 2)))))))))))))))))
def g_law:G:=zv 12 1 zxt
end
end Pg
namespace Pg
open PySem L2 F Mt
variable {d d0 l r t x y o st v:D}{ts us dl ks rt ws:List D}{h i j g rh:Nat}{n:Int}{S S0 S1 R J T:Sto}{ev:Ev}{p m:Nat}{cl:Str}
theorem zq6(S:Sto):∀(m:Nat) (lo:Int),∃us,zgy (e2s qj (zd7 (aC (e2 yd (eV 0) (eK (.int 2))) (aC (eK (.str (Str.ofString ""))) aN))) (eA zug (aC (e2 zak (eV 0) (eK (.int 1))) aN))) [] (jb lo m) S=some (us,S)/\us.length=m/\∀x∈us,Thing 0 x
 |0,lo=>⟨[],rfl,rfl,fun _ hx=>by cases hx⟩
 | m+1,lo=>by
   obtain⟨us,c,l,t⟩:=zq6 S m (lo+1);obtain⟨x,hx,cx⟩:∃x,Thing 0 x/\e2s qj (zd7 (aC (e2 yd (eV 0) (eK (.int 2))) (aC (eK (.str (Str.ofString ""))) aN))) (eA zug (aC (e2 zak (eV 0) (eK (.int 1))) aN)) [some (.int lo)] S=some (x,S):=by
     by_cases e:lo=1
     · exact⟨_,zus (z:=Str.ofString "") (by decide),qm (zcs (a_c (e_2 (e_v rfl) e_k (sub_int _ _)) (a_c e_k a_n)) (z11 rfl)) (e_a (a_c (e_2 (e_v rfl) e_k ((zps _ _).trans (by rw[z2g e]))) a_n) rfl) rfl⟩
     · exact⟨_,ziq (lo-2),qm (zcs (a_c (e_2 (e_v rfl) e_k (sub_int _ _)) (a_c e_k a_n)) (z11 rfl)) (e_a (a_c (e_2 (e_v rfl) e_k ((zps _ _).trans (by rw[z2b e]))) a_n) rfl) rfl⟩
   refine⟨x::us,?_,by rw[List.length_cons,l],fun y hy=>(z2l.mp hy).elim (fun e=>by rw[e];exact hx) (t y)⟩;rw[zb9];simp only[zgy,cx,Option.bind_some,c]
def aB:C:=(zt (qo 2 (e2s qj (zk jf (aC (eV 3) (aC (eV 4) (aC (eV 2) (aC (eV 5) (aC (zk qb (aC (eV 0) (aC (e2 zz (eK (.int 10)) (eV 6)) aN))) (aC (e2 zz (eK (.int 5000)) (e2 ye (eK (.int 10)) (eV 6))) aN))))))) (eK (.int 0)))) (yk (eV 5) (kf (aC (qc "Shelf" "make" jc (eV 4) aN) (aC (yu (aC (eV 2) aN)) aN)))))
theorem zvi:Rb []:=fun _ hz=>by cases hz
theorem zqo(q:Int):ye (.int 10) (.int q)=some (.int (10*q)):=zl8 (by decide)
theorem Kp.all{b c:Nat}(kk:∀x∈ks,Kp b x)(h:b<=c):∀x∈ks,Kp c x:=fun x hx=>(kk x hx).mono h
theorem zer(ns:List Int)(hn:ns.length<=63)(a1:D):∀(js:List D),(∀x∈js,∃i:Int,x=.int i/\0<=i/\i<10000)->∀{b:Nat}{n:Int}{d:D}{dl ts ks:List D}{h:Nat} (o6:Option D),Mk 0 d ts h->ts.length<=b->120<=b->(∀x∈ks,Kp b x)->0<ks.length->ks.length+js.length<=10->dl.length+js.length<=10->Dl dl->b+3*js.length<=200 ->
   ∃n' d' dl' ts' ks' h' o6',zbh 6 aB js [some (.lst (ns.map D.int)),some a1,some (.lst ts),some (.obj 0),some (.obj 1),some (.obj 3),o6,none,none,none,none,none] (W0 n d dl ks [])=some (.nx [some (.lst (ns.map D.int)),some a1,some (.lst ts'),some (.obj 0),some (.obj 1),some (.obj 3),o6',none,none,none,none,none],W0 n' d' dl' ks' [])/\Mk 0 d' ts' h'/\ts'.length<=200/\(∀x∈ks',Kp 200 x)/\0<ks'.length/\dl'.length<=10/\Dl dl'
 | [],_,b,n,d,dl,ts,ks,h,o6,m,hb,hb2,kk,k0,k1,hd,q,hB=>⟨n,d,dl,ts,ks,h,o6,rfl,m,by simp at hB;omega,Kp.all kk (by simp at hB;omega),k0,by simpa using hd,q⟩
 | jj::js,hj,b,n,d,dl,ts,ks,h,o6,m,hb,hb2,kk,k0,k1,hd,q,hB=>by
   obtain⟨i,rfl,i0,i1⟩:=hj jj (z2z ..);rw[List.length_cons]at k1 hd hB;obtain⟨c,c0,c1,hc⟩:=zag ns hn (q:=10+i) (by omega) (by omega);obtain⟨n1,ts1,d1,h1',v,cd,m1,mv,lb⟩:=zni (n:=n) (R:=[]) (f:=5000+10*i) c0 m (by omega) (by omega) q kk k0 zvi (by omega);have l1:ts1.length<=b+3:=by omega
   have r1:qo 2 (e2s qj (zk jf (aC (eV 3) (aC (eV 4) (aC (eV 2) (aC (eV 5) (aC (zk qb (aC (eV 0) (aC (e2 zz (eK (.int 10)) (eV 6)) aN))) (aC (e2 zz (eK (.int 5000)) (e2 ye (eK (.int 10)) (eV 6))) aN))))))) (eK (.int 0))) [some (.lst (ns.map D.int)),some a1,some (.lst ts),some (.obj 0),some (.obj 1),some (.obj 3),some (.int i),none,none,none,none,none] (W0 n d dl ks [])=some (.nx [some (.lst (ns.map D.int)),some a1,some (.lst ts1),some (.obj 0),some (.obj 1),some (.obj 3),some (.int i),none,none,none,none,none],W0 n1 d1 (dl++[v]) ks []) :=
     zj (qm (zg (a_c (e_v rfl) (a_c (e_v rfl) (a_c (e_v rfl) (a_c (e_v rfl) (a_c (zg (a_c (e_v rfl) (a_c (e_2 e_k (e_v rfl) (add_int _ _)) a_n)) (hc _)) (a_c (e_2 e_k (e_2 e_k (e_v rfl) (zqo _)) (add_int _ _)) a_n)))))) cd) e_k rfl)
   have r2:yk (eV 5) (kf (aC (qc "Shelf" "make" jc (eV 4) aN) (aC (yu (aC (eV 2) aN)) aN))) [some (.lst (ns.map D.int)),some a1,some (.lst ts1),some (.obj 0),some (.obj 1),some (.obj 3),some (.int i),none,none,none,none,none] (W0 n1 d1 (dl++[v]) ks [])=some (.nx [some (.lst (ns.map D.int)),some a1,some (.lst ts1),some (.obj 0),some (.obj 1),some (.obj 3),some (.int i),none,none,none,none,none],W0 n1 d1 (dl++[v]) (ks++[.tup [d1,.lst ts1]]) []) :=
     zgd (j:=3) (us:=ks) rfl rfl (jr (a_c (zi9 (i:=1) (d:=d1) (j:=2) rfl rfl) (a_c (zff (e_v rfl)) a_n)) (z11 rfl)) (by omega)
   obtain⟨n',d',dl',ts',ks',h',o6',lp,W⟩:=zer ns hn a1 js (fun x hx=>hj x (z2e _ hx)) (b:=b+3) (n:=n1) (d:=d1) (dl:=dl++[v]) (ks:=ks++[.tup [d1,.lst ts1]]) (some (.int i)) m1 l1 (by omega) (fun x hx=>(z32.mp hx).elim (fun e=>(kk x e).mono (by omega)) fun e=>by rw[z20.mp e];exact⟨d1,ts1,h1',rfl,m1,l1⟩) (by simp) (by simp;omega) (by simp;omega) (q.app mv) (by omega);exact⟨n',d',dl',ts',ks',h',o6',zbg (ze r1 r2) lp,W⟩
theorem zhy{q:Nat}(hq:q<10000):((q:Int).natAbs.log2<1920)/\(Str.ofString (toString (q:Int))).length<=20:=by
 obtain⟨f1,l1⟩:=zts hq;refine⟨?_,l1⟩;simp only[z03]at f1;split at f1
 · assumption
 · cases f1
theorem zld{z:Str}{ps:List PyData}(h1:(PyData.tuple ps).showable=true)(h2:((PyData.shownAll ps).map (·.length)).sum+2*(PyData.shownAll ps).length<=1000):zbs (Str.ofString "the shelf has changed: ") ps=true:=by
 have e1:(Str.empty++Str.ofString "the shelf has changed: ").length=23:=by decide +kernel
 have e2:=tupleText_len_le (PyData.shownAll ps);unfold zbs;simp only[z2t,z39];refine⟨⟨h1,by rw[e1,z3a];omega⟩,?_⟩;rw[z5o,e1,z3a];show 23+(tupleText (PyData.shownAll ps)).length<=_;omega
theorem zuc{z:Str}{q:Nat}(hz:(reprText z).length<=20)(hq:q<10000):Shw (.tup [.str z,.int q]):=by
 obtain⟨a,b⟩:=zhy hq;refine⟨_,[.str z,.int q],rfl,rfl,zld (z:=z) ?_ ?_⟩
 · simp only[PyData.showable,PyData.showableAll,z5p,Bool.true_and,z39];exact a
 · simp only[PyData.shownAll,PyData.shown,z2o,z5w,List.sum_cons,List.sum_nil,List.length_cons,List.length_nil];omega
theorem z1j{z:Str}{q w:Nat}(hz:(reprText z).length<=20)(hq:q<10000)(hw:w<10000):Shw (.tup [.str z,.int q,.int w]):=by
 obtain⟨a,b⟩:=zhy hq;obtain⟨a',b'⟩:=zhy hw;refine⟨_,[.str z,.int q,.int w],rfl,rfl,zld (z:=z) ?_ ?_⟩
 · simp only[PyData.showable,PyData.showableAll,z5p,Bool.true_and,z2t,z39];exact⟨a,a'⟩
 · simp only[PyData.shownAll,PyData.shown,z2o,z5w,List.sum_cons,List.sum_nil,List.length_cons,List.length_nil];omega
theorem zs7{a b:Nat}{v:D}(mv:Mv a b v)(ha:a<=1100):Shw v:=by
 cases mv with
 |out p hp=>exact zuc (by decide +kernel) (by omega)
 |swap p hp=>exact zuc (by decide +kernel) (by omega)
 |turn p q h1 h2=>exact z1j (by decide +kernel) (by omega) (by omega)
 |laid q hq=>exact zuc (by decide +kernel) (by omega)
 |cut p hp=>exact zuc (by decide +kernel) (by omega)
 |back q hq=>exact zuc (by decide +kernel) (by omega)
 |put p hp=>exact zuc (by decide +kernel) (by omega)
theorem zj6{c m:Str}{g:G}{f:E}{a:As}{i:Nat}{fs:List (Str×D)}(h:f ev S=some (.obj i,S1))(hi:ki c S1 (.obj i)=some (i,fs))(hm:fs.lookup m=none)(ha:a ev S1=none):qc c m g f a ev S=none:=by simp[qc,h,hi,hm,ha]
theorem zx1{f:E}{a:As}(h:f ev S=none):aC f a ev S=none:=by simp[aC,h]
theorem zsk{c m:Str}{f:E}{q:F.R}{i:Nat}{fs:List (Str×D)}(h:f ev S=some (.obj i,S1))(hi:ki c S1 (.obj i)=some (i,fs))(hm:fs.lookup m=none):zi1 c m f q ev S=q ev S1:=by simp[zi1,h,hi,hm]
theorem zrw{p:D}(hT:T[i]? = some (shf d j))(q:Ref zmw r_put [.obj 0,d,p,x] cl T):Ref k9 kr [.obj i,p,x] cl T :=
 ⟨zd2 (zdw (zj6 (e_v rfl) (qg hT) zhr (zx1 (zgz (a_c (zb1 rfl hT) (a_c (zaz rfl hT) (a_c (e_v rfl) (a_c (e_v rfl) a_n)))) q.1)))),(zci (n:=3) rfl).trans ((zsk (e_v rfl) (qg hT) zhr).trans ((zqe (a_c (zb1 rfl hT) (a_c (zaz rfl hT) (a_c (e_v rfl) (a_c (e_v rfl) a_n))))).trans q.2))⟩
theorem zjz{z:Int}(hT:T[1]? = some (shf d 2))(mk:Mk 0 d ts h)(hz:(ts.length:Int)<z):kd [.obj 1,.int z] T=some (.bl true,T):=by
 obtain⟨c1,c2⟩:=zrw (x:=.int 1) hT (zvq (k:=0) mk (p:=z) (by omega) (.obj 0) (.int 1) T);have hc:(hAs (zex ct_NoPlace) none (qo 2 (eK (.bl true))) (zex no_NoPlace) hNo) NP=some (none,qo 2 (eK (.bl true))):=by
   have e1:zex ct_NoPlace NP=true:=by decide +kernel
   simp[hAs,e1]
 exact jz rfl (ze (zj e_k) (ze (zrt (zdw (yp (e_v rfl) (qg hT) zlb (a_c (e_v rfl) (a_c e_k a_n)) c1)) ((zc7 (e_v rfl) (qg hT) zlb (a_c (e_v rfl) (a_c e_k a_n))).trans c2) hc (zj e_k)) (zq (e_v rfl))))
def wB:C:=(zt (qo 4 (e2 zdb (eV 3) (eA zas (aC (eV 1) aN)))) (zt (qo 5 (zk qh (aC (eV 0) (aC (eK (.bl false)) aN)))) (zt (sIf (bOr (zhi (bE (eA ztf (aC (eV 5) (aC (eK (.ty "bool")) aN))))) (bE (e2 ze9 (eV 5) (eV 4)))) (qx (eK (.bl false))) j8) (zt (qo 6 (zd7 (aC (eK (.str (Str.ofString "none"))) (aC (eK (.bl true)) (aC (eK (.bl false)) aN))))) (zt (sIf (bE (eV 4)) (qo 6 (e2s qj (eV 1) (eV 3))) j8) (sIf (bE (e2 ze9 (zk qh (aC (eV 0) (aC (eK (.bl true)) aN))) (eV 6))) (qx (eK (.bl false))) j8))))))
theorem zwf(a b:Bool):ze9 (.bl a) (.bl b)=some (.bl (a != b)):=by cases a<;>cases b<;>rfl
theorem zc3{b h:Nat}(mh:Mk 0 d us h)(q:Dl dl)(kk:∀x∈ks,Kp b x)(w:Wks R)(w2:Wks J)(hm:m=dl.length)(mk:Mk 0 st ws g)(hl:ws.length<=2000)(c:D):∀(cnt k:Nat) (o3 o4 o5 o6:Option D),∃o3' o4' o5' o6',zbh 3 wB (jb k cnt) [some (.obj (R.length+4)),some (.lst ws),some c,o3,o4,o5,o6] (U n d dl ks R st m (min k ws.length) J)=some (.nx [some (.obj (R.length+4)),some (.lst ws),some c,o3',o4',o5',o6'],U n d dl ks R st m (min (k+cnt) ws.length) J)
 |0,k,o3,o4,o5,o6=>⟨o3,o4,o5,o6,rfl⟩
 | cnt+1,k,o3,o4,o5,o6=>by
   rw[zb9];have lt:zdb (.int (k:Int)) (.int (ws.length:Int))=some (.bl (decide (k<ws.length))):=by rw[zzn];congr 2;rw[z3e];omega
   have r1:∀{S:Sto},qo 4 (e2 zdb (eV 3) (eA zas (aC (eV 1) aN))) [some (.obj (R.length+4)),some (.lst ws),some c,some (.int k),o4,o5,o6] S=some (.nx [some (.obj (R.length+4)),some (.lst ws),some c,some (.int k),some (.bl (decide (k<ws.length))),o5,o6],S):=zj (e_2 (e_v rfl) (e_a (a_c (e_v rfl) a_n) rfl) lt);have hmore:=zep (n:=n) (p:=min k ws.length) mh q kk w w2 hm mk;rw[show decide (min k ws.length<ws.length)=decide (k<ws.length) by rw[z3e];omega]at hmore;have r3:sIf (bOr (zhi (bE (eA ztf (aC (eV 5) (aC (eK (.ty "bool")) aN))))) (bE (e2 ze9 (eV 5) (eV 4)))) (qx (eK (.bl false))) j8 [some (.obj (R.length+4)),some (.lst ws),some c,some (.int k),some (.bl (decide (k<ws.length))),some (.bl (decide (k<ws.length))),o6] (U n d dl ks R st m (min k ws.length) J)=some (.nx [some (.obj (R.length+4)),some (.lst ws),some c,some (.int k),some (.bl (decide (k<ws.length))),some (.bl (decide (k<ws.length))),o6],U n d dl ks R st m (min k ws.length) J) :=
     zm (zxw (zt8 (q8 (e_a (a_c (e_v rfl) (a_c e_k a_n)) rfl))) (q8 (e_2 (e_v rfl) (e_v rfl) ((zwf _ _).trans (by rw[bne_self_eq_false])))))
   by_cases hk:k<ws.length
   · have e1:min k ws.length=k:=by omega
     have e2:min (k+1) ws.length=k+1:=by omega
     rw[z2g hk]at r1 r3 hmore;rw[e1]at r3 hmore ⊢;have hs:=zkd (n:=n) (p:=k) mh q kk w w2 hm mk hl hk;obtain⟨o3',o4',o5',o6',lp⟩:=zc3 mh q kk w w2 hm mk hl c cnt (k+1) (some (.int k)) (some (.bl true)) (some (.bl true)) (some ws[k]);rw[e2]at lp;refine⟨o3',o4',o5',o6',zbg (ze r1 (ze (zj (zg (a_c (e_v rfl) (a_c e_k a_n)) hmore)) (ze r3 (ze (zj (zcs (a_c e_k (a_c e_k (a_c e_k a_n))) (z11 rfl))) (ze (qd (q8 (e_v rfl)) (zj (qm (e_v rfl) (e_v rfl) (zd3 (z19 hk))))) (zm (q8 (e_2 (zg (a_c (e_v rfl) (a_c e_k a_n)) hs) (e_v rfl) (zs6 (zhw (by decide) (zi3 (mk.things _ (z4d hk)))))))))))))  ?_⟩;rw[show k+(cnt+1)=k+1+cnt by omega];exact lp
   · have e1:min k ws.length=ws.length:=by omega
     have e2:min (k+1) ws.length=ws.length:=by omega
     rw[z2b hk]at r1 r3 hmore;rw[e1]at r3 hmore ⊢;have hs:=zmt (n:=n) (p:=ws.length) mh q kk w w2 hm mk (z16 _);obtain⟨o3',o4',o5',o6',lp⟩:=zc3 mh q kk w w2 hm mk hl c cnt (k+1) (some (.int k)) (some (.bl false)) (some (.bl false)) (some (.lst [.str (Str.ofString "none"),.bl true,.bl false]));rw[e2]at lp;refine⟨o3',o4',o5',o6',zbg (ze r1 (ze (zj (zg (a_c (e_v rfl) (a_c e_k a_n)) hmore)) (ze r3 (ze (zj (zcs (a_c e_k (a_c e_k (a_c e_k a_n))) (z11 rfl))) (ze (zm (q8 (e_v rfl))) (zm (q8 (e_2 (zg (a_c (e_v rfl) (a_c e_k a_n)) hs) (e_v rfl) (zs6 (by decide +kernel)))))))))) ?_⟩;rw[show k+(cnt+1)=k+1+cnt by omega];exact lp
theorem zf7{b h:Nat}{c:Int}(mh:Mk 0 d us h)(q:Dl dl)(kk:∀x∈ks,Kp b x)(w:Wks R)(w2:Wks J)(hm:m=dl.length)(mk:Mk 0 st ws g)(hl:ws.length<=2000)(c0:0<=c)(c1:c<10000):∃p',xy [.obj (R.length+4),.lst ws,.int c] (U n d dl ks R st m 0 J)=some (.bl true,U n d dl ks R st m p' J):=by obtain⟨o3',o4',o5',o6',lp⟩:=zc3 (n:=n) mh q kk w w2 hm mk hl (.int c) c.toNat 0 none none none none;rw[show min 0 ws.length=0 by omega]at lp;exact⟨_,jz rfl (ze (zhq (b:=wB) (n:=c) (e_v rfl) c0 (by omega) lp) (zq e_k))⟩
def hB:C:=(sIf (bE (e2 ze9 (zk qh (aC (eV 7) (aC (eV 11) aN))) (zd7 (aC (eV 8) (aC (eK (.bl true)) (aC (eK (.bl true)) (aC (eK (.bl false)) aN))))))) (qx (eK (.bl false))) j8)
def lB:C:=(zt (zud [2,9] (zk jf (aC (eV 3) (aC (eV 4) (aC (eV 2) (aC (eV 5) (aC (zk qb (aC (eV 0) (aC (e2 zz (eK (.int 30)) (eV 6)) aN))) (aC (e2 zz (eK (.int 7000)) (e2 ye (eK (.int 10)) (eV 6))) aN)))))))) (zt (sIf (bE (e2 zd6 (eV 8) (eK .non))) (qo 8 (eV 9)) j8) (zt (qo 10 (e2 zak (e2 jq (zk qb (aC (eV 0) (aC (e2 zz (eK (.int 40)) (eV 6)) aN))) (eK (.int 2))) (eK (.int 0)))) (zlk 11 (zd7 (aC (eV 10) (aC (zuj (eV 10)) (aC (eV 10) aN)))) hB))))
theorem zgp(ns:List Int)(hn:ns.length<=63)(a1:D)(m4:Mk 0 st ws g)(w2:Wks J)(k0:0<ks.length)(kk:∀x∈ks,Kp 200 x):∀(js:List D),(∀x∈js,∃i:Int,x=.int i/\0<=i/\i<10000)->∀{n:Int}{d f8:D}{dl ts:List D}{h b:Nat} (o6 o9 o10 o11:Option D),Mk 0 d ts h->ts.length<=b->200<=b->b+3*js.length<=300->dl.length+js.length<900->Dl dl->((f8=.non/\m=dl.length)\/(m<dl.length/\dl[m]? = some f8/\Shw f8)) ->
   ∃n' d' dl' ts' h' f8' o6' o9' o10' o11',zbh 6 lB js [some (.lst (ns.map D.int)),some a1,some (.lst ts),some (.obj 0),some (.obj 1),some (.obj 3),o6,some (.obj 4),some f8,o9,o10,o11] (U n d dl ks [] st m p J)=some (.nx [some (.lst (ns.map D.int)),some a1,some (.lst ts'),some (.obj 0),some (.obj 1),some (.obj 3),o6',some (.obj 4),some f8',o9',o10',o11'],U n' d' dl' ks [] st m p J)/\Mk 0 d' ts' h'/\ts'.length<=300/\Dl dl'
 | [],_,n,d,f8,dl,ts,h,b,o6,o9,o10,o11,mh,lt,lb,hb,hd,q,hf=>⟨n,d,dl,ts,h,f8,o6,o9,o10,o11,rfl,mh,by simp at hb;omega,q⟩
 | jj::js,hj,n,d,f8,dl,ts,h,b,o6,o9,o10,o11,mh,lt,lb,hb,hd,q,hf=>by
   obtain⟨i,rfl,i0,i1⟩:=hj jj (z2z ..);rw[List.length_cons]at hd hb;obtain⟨c,c0,c1,hc⟩:=zag ns hn (q:=30+i) (by omega) (by omega);obtain⟨c',c0',c1',hc'⟩:=zag ns hn (q:=40+i) (by omega) (by omega);have rb:Rb (wkr 1 st m p::J):=(Wks.nil.with_ w2 m4).rb;obtain⟨n1,ts1,d1,h1',v,cd,m1,mv,lb1⟩:=zni (n:=n) (R:=wkr 1 st m p::J) (f:=7000+10*i) c0 mh (by omega) (by omega) q kk k0 rb (by decide);have q1:=q.app mv;have sv:=zs7 mv (by omega);obtain⟨f,fe,hm1,hv1,sf⟩:∃f,(sIf (bE (e2 zd6 (eV 8) (eK .non))) (qo 8 (eV 9)) j8 [some (.lst (ns.map D.int)),some a1,some (.lst ts1),some (.obj 0),some (.obj 1),some (.obj 3),some (.int i),some (.obj 4),some f8,some v,o10,o11] (U n1 d1 (dl++[v]) ks [] st m p J)=some (.nx [some (.lst (ns.map D.int)),some a1,some (.lst ts1),some (.obj 0),some (.obj 1),some (.obj 3),some (.int i),some (.obj 4),some f,some v,o10,o11],U n1 d1 (dl++[v]) ks [] st m p J))/\m<(dl++[v]).length/\(dl++[v])[m]? = some f/\Shw f:=by
     rcases hf with⟨rfl,hm⟩ | ⟨hm,hv,sh⟩
     · exact⟨v,qd (q8 (e_2 (e_v rfl) e_k rfl)) (zj (e_v rfl)),by rw[hm];simp,by rw[hm];simp,sv⟩
     · obtain⟨ds,ps,rfl,s1,s2⟩:=id sh;exact⟨.tup ds,zm (q8 (e_2 (e_v rfl) e_k rfl)),by simp;omega,by rw[z2k hm];exact hv,sh⟩
   have hv2:(dl++[v])[m]=f:=by rw[z19 hm1]at hv1;exact z2n hv1
   have hh:∀s:Bool,qh [.obj 4,.bl s] (U n1 d1 (dl++[v]) ks [] st m p J)=some (.lst [f,.bl true,.bl true,.bl false],U n1 d1 (dl++[v]) ks [] st m p J):=fun s=>zfg (R:=[]) m1 q1 kk Wks.nil w2 m4 hm1 hv2 sf;have pf:pl 150 (.lst [f,.bl true,.bl true,.bl false])=true:=by have:=(q1 _ (hv2▸z4d hm1)).2;show([f,D.bl true,D.bl true,D.bl false]).all (pl 149)=true;simp only[List.all_cons,List.all_nil,z5p,zhw (show 2<=149 by decide) this];rfl
   have turn:∀(s:Bool) (tt:D),hB [some (.lst (ns.map D.int)),some a1,some (.lst ts1),some (.obj 0),some (.obj 1),some (.obj 3),some (.int i),some (.obj 4),some f,some v,some tt,some (.bl s)] (U n1 d1 (dl++[v]) ks [] st m p J)=some (.nx [some (.lst (ns.map D.int)),some a1,some (.lst ts1),some (.obj 0),some (.obj 1),some (.obj 3),some (.int i),some (.obj 4),some f,some v,some tt,some (.bl s)],U n1 d1 (dl++[v]) ks [] st m p J):=fun s tt=>
     zm (q8 (e_2 (zg (a_c (e_v rfl) (a_c (e_v rfl) a_n)) (hh s)) (zcs (a_c (e_v rfl) (a_c e_k (a_c e_k (a_c e_k a_n)))) (z11 rfl)) (zs6 pf)))
   obtain⟨n',d',dl',ts',h',f8',o6',o9',o10',o11',lp,W⟩:=zgp ns hn a1 m4 w2 k0 kk js (fun x hx=>hj x (z2e _ hx)) (n:=n1) (b:=b+3) (f8:=f) (some (.int i)) (some v) (some (.bl (decide (c' % 2=0)))) (some (.bl (decide (c' % 2=0)))) m1 (by omega) (by omega) (by omega) (by simp;omega) q1 (.inr ⟨hm1,hv1,sf⟩);exact⟨n',d',dl',ts',h',f8',o6',o9',o10',o11',zbg (ze (zk0 (zg (a_c (e_v rfl) (a_c (e_v rfl) (a_c (e_v rfl) (a_c (e_v rfl) (a_c (zg (a_c (e_v rfl) (a_c (e_2 e_k (e_v rfl) (add_int _ _)) a_n)) (hc _)) (a_c (e_2 e_k (e_2 e_k (e_v rfl) (zqo _)) (add_int _ _)) a_n)))))) cd)) (ze fe (ze (zj (e_2 (e_2 (zg (a_c (e_v rfl) (a_c (e_2 e_k (e_v rfl) (add_int _ _)) a_n)) (hc' _)) e_k (zbe (by decide))) e_k (zps _ _))) (zrv (zcs (a_c (e_v rfl) (a_c (e_1 (e_v rfl) rfl) (a_c (e_v rfl) a_n))) (z11 rfl)) (zbg (turn _ _) (zbg (turn _ _) (zbg (turn _ _) rfl))))))) lp,W⟩
theorem law_ok:zx4 g_law:=by
 intro ns hn;obtain⟨c0,_,_,hc0⟩:=zag ns hn (q:=0) (by decide) (by decide);obtain⟨c1,_,_,hc1⟩:=zag ns hn (q:=1) (by decide) (by decide);obtain⟨c3,c30,c31,hc3⟩:=zag ns hn (q:=3) (by decide) (by decide);obtain⟨c4,c40,c41,hc4⟩:=zag ns hn (q:=4) (by decide) (by decide);obtain⟨c5,c50,c51,hc5⟩:=zag ns hn (q:=5) (by decide) (by decide);obtain⟨c2,_,_,hc2⟩:=zag ns hn (q:=2) (by decide) (by decide);have w0:=z3c c0 (show(15:Int)≠0 by decide);have w1:=z25 c0 (show(0:Int)<15 by decide);have many:∃a:Int,0<=a/\a<=60/\sIf (bE (e2 zak (e2 jq (zk qb (aC (eV 0) (aC (eK (.int 1)) aN))) (eK (.int 8))) (eK (.int 3)))) (qo 1 (eK (.int 60))) j8 [some (.lst (ns.map D.int)),some (.int (c0%15)),none,none,none,none,none,none,none,none,none,none] []=some (.nx [some (.lst (ns.map D.int)),some (.int a),none,none,none,none,none,none,none,none,none,none],[]):=by
   have e1:e2 zak (e2 jq (zk qb (aC (eV 0) (aC (eK (.int 1)) aN))) (eK (.int 8))) (eK (.int 3)) [some (.lst (ns.map D.int)),some (.int (c0%15)),none,none,none,none,none,none,none,none,none,none] []=some (.bl (decide (c1%8=3)),[]):=e_2 (e_2 (zg (a_c (e_v rfl) (a_c e_k a_n)) (hc1 _)) e_k (zbe (by decide))) e_k (zps _ _);by_cases f:c1%8=3
   · rw[z2g f]at e1;exact⟨60,by decide,by decide,qd (q8 e1) (zj e_k)⟩
   · rw[z2b f]at e1;exact⟨c0%15,w0,by omega,zm (q8 e1)⟩
 obtain⟨a,a0,a1,cm⟩:=many;obtain⟨ts,ct,lt,tt⟩:=zq6 [] a.toNat 0;obtain⟨d,h,n1,cs,m⟩:=zle (n:=0) (R:=[]) (ts:=ts) (ev:=[some (.lst (ns.map D.int)),some (.int a),some (.lst ts),some (.obj 0),none,none,none,none,none,none,none,none]) (f:=eV 3) (g:=yu (aC (eV 2) aN)) (e_v rfl) (zff (e_v rfl)) tt (by omega);obtain⟨b,hb,cb⟩:=zca c2 (c:=4) (by decide);have rl:(jb 0 b).length=b:=zhu _;have kk0:∀x∈[D.tup [d,.lst ts]],Kp 120 x:=fun x hx=>by rw[z20.mp hx];exact⟨d,ts,h,rfl,m,by omega⟩
 obtain⟨n2,d2,dl2,ts2,ks2,h2,o6,lp1,m2,l2,kk2,k2,hd2,q2⟩:=zer ns hn (.int a) (jb 0 b) (rng (by omega)) (b:=120) (n:=n1) (d:=d) (dl:=[]) (ts:=ts) (ks:=[.tup [d,.lst ts]]) none m (by omega) (by omega) kk0 (by simp) (by simp;omega) (by simp;omega) (fun _ hx=>by cases hx) (by rw[rl];omega);obtain⟨e3,he3,ce3⟩:=zca c3 (c:=ts2.length+3) (by omega);obtain⟨p1,cw1⟩:=zf7 (n:=n2) (R:=[]) (J:=[]) (c:=(e3:Int)) m2 q2 kk2 Wks.nil Wks.nil rfl m2 (by omega) (by omega) (by omega);have wk1:Wks [wkr 1 d2 dl2.length p1]:=Wks.nil.with_ (R:=[]) (J:=[]) Wks.nil m2;have hmo:=zep (n:=n2) (R:=[wkr 1 d2 dl2.length p1]) (J:=[]) (p:=0) m2 q2 kk2 wk1 Wks.nil rfl m2;have wk2:Wks [wkr 1 d2 dl2.length ((0:Nat):Int)]:=Wks.nil.with_ (R:=[]) (J:=[]) Wks.nil m2;obtain⟨b5,hb5,cb5⟩:=zca c5 (c:=4) (by decide);obtain⟨n3,d3,dl3,ts3,h3,f8,p6,p9,p10,p11,lp2,m3,l3,q3⟩:=zgp ns hn (.int a) (J:=[wkr 1 d2 dl2.length ((0:Nat):Int)]) (p:=p1) (m:=dl2.length) m2 wk2 k2 kk2 (jb 0 (1+b5)) (rng (by omega)) (n:=n2) (d:=d2) (f8:=.non) (dl:=dl2) (b:=200) o6 none none none m2 l2 (by omega) (by rw[zhu];omega) (by rw[zhu];omega) q2 (.inl ⟨rfl,rfl⟩);have wk3:Wks [wkr 1 d2 dl2.length p1,wkr 1 d2 dl2.length ((0:Nat):Int)]:=Wks.nil.with_ (R:=[]) wk2 m2;obtain⟨p3,cw3⟩:=zf7 (n:=n3) (R:=[wkr 1 d2 dl2.length p1,wkr 1 d2 dl2.length ((0:Nat):Int)]) (J:=[]) (c:=if(20:Int)<(ts3.length:Int)+1 then 20 else (ts3.length:Int)+1) m3 q3 kk2 wk3 Wks.nil rfl m3 (by omega) (by split<;>omega) (by split<;>omega);refine⟨_,jz rfl (ze (zj (e_2 (zg (a_c (e_v rfl) (a_c e_k a_n)) (hc0 _)) e_k (zbe (by decide)))) (ze cm (ze (zj (znf (e_v rfl) a0 (by omega) ct)) (ze (zj zrf) (ze (zj cs) (ze (zj (zne (S1:=[wd (kg 0) n1,shf d 2,.lst []]) (a_c (jr (a_c (zi9 (i:=1) (d:=d) (j:=2) rfl rfl) (a_c (zff (e_v rfl)) a_n)) (z11 rfl)) a_n) (z11 rfl))) (ze (zhq (b:=aB) (n:=(b:Int)) (S1:=W0 n1 d [] [.tup [d,.lst ts]] []) (e_2 (zg (a_c (e_v rfl) (a_c e_k a_n)) (hc2 _)) e_k cb) (by omega) (by omega) (by rw[Int.toNat_natCast];exact lp1))
   (ze (zj (ze0 (R:=[]) (e_v rfl))) (ze (zm (zxw (zt8 (q8 (e_a (a_c (e_v rfl) (a_c e_k a_n)) ?_))) (zt8 (q8 (zg (a_c (e_v rfl) (a_c (e_v rfl) (a_c (e_2 (zg (a_c (e_v rfl) (a_c e_k a_n)) (hc3 _)) (e_2 (e_a (a_c (e_v rfl) a_n) rfl) e_k (add_int _ _)) ce3) a_n))) cw1)))))
   (ze (zm (zt8 (q8 (zg (a_c (e_v rfl) (a_c (e_2 (e_2 (e_a (a_c (e_v rfl) a_n) rfl) e_k (add_int _ _)) (e_2 (zg (a_c (e_v rfl) (a_c e_k a_n)) (hc4 _)) e_k (zbe (by decide))) (add_int _ _)) a_n)) (zjz (d:=d2) (T:=U n2 d2 dl2 ks2 [] d2 dl2.length p1 []) uh1 m2 ?_)))))
   (ze (zm (q8 (e_2 (zg (a_c (ze0 (R:=[wkr 1 d2 dl2.length p1]) (e_v rfl)) (a_c e_k a_n)) hmo) (e_2 (e_v rfl) (zcs a_n (z2x _)) (zqn _)) ?_)))
   (ze (zj e_k) (ze (zhq (b:=lB) (n:=((1+b5:Nat):Int)) (S1:=U n2 d2 dl2 ks2 [] d2 dl2.length p1 [wkr 1 d2 dl2.length ((0:Nat):Int)]) (e_2 e_k (e_2 (zg (a_c (e_v rfl) (a_c e_k a_n)) (hc5 _)) e_k cb5) ?_) (by omega) (by omega) (by rw[Int.toNat_natCast];exact lp2))
   (zq (zng (zg (a_c (ze0 (R:=[wkr 1 d2 dl2.length p1,wkr 1 d2 dl2.length ((0:Nat):Int)]) (e_v rfl)) (a_c (e_v rfl) (a_c (e_a (a_c (e_2 (e_a (a_c (e_v rfl) a_n) rfl) e_k (add_int _ _)) (a_c e_k a_n)) rfl) a_n))) cw3) (e_2 (zoa (i:=1) (j:=2) rfl rfl m3 (by omega) (usb m3 q3 kk2 wk3 Wks.nil m3)) (e_v rfl) (z0b (zhw (by decide) (zvx m3.things)))))))))))))))))))⟩
 · simp[zww,U,W0,wkr]
 · have:=z3c c4 (show(3:Int)≠0 by decide);omega
 · have e:decide (0<ts2.length)=decide (ts2≠[]):=by rw[z3e];exact z28
   rw[e,zwf,bne_self_eq_false]
 · rw[add_int];congr 2
end Pg
namespace Pg
open PySem L2 F PySem.Spec PyProof.Rows
variable {P:Program}{w:World}{K:zFr}{mg:zMg}{base:Heap}{f:Addr}{cdv:Value}{A:Around}{outer:List Env}{s:Shared}{H:Hp}{E:XK}
seal F.FE F.FB F.FW F.FA F.FS F.FSs F.FPt F.RE F.RS F.RSs F.RTs
def top(i:Nat):Stmt:=PySem.Challenge.pw_ownshelf_k43_strict_walkers.main.body.getD i (.Pass ⟨0,0,0,0⟩)
theorem _root_.L2.FnScope.auto7{N P:List Str}{sc:Scope}(h1:sc.kind=.function:=by rfl)(h2:sc.isCoroutine=false:=by rfl)(h3:sc.isGenerator=false:=by rfl)(h4:N.Nodup:=by decide +kernel)(h5:N.take P.length=P:=by rfl)(h6:∀x∈P,sc.names.lookup x=some .local\/sc.names.lookup x=some .cell:=by decide +kernel)(h7:∀y∈sc.names,y.2≠.free:=by decide +kernel):L2.FnScope N P sc:=⟨h1,h2,h3,h4,h5,h6,h7⟩
theorem _root_.L2.Room.rmd{j k:Nat}{A:Around}(r:Room k A)(h:j<=k:=by decide):Room j A:=r.mono h
abbrev s_Wood_numbered:Stmt:=ji (top 47) 4
abbrev s_check_room:Stmt:=top 46
abbrev s_height:Stmt:=top 28
abbrev s_height_above:Stmt:=top 34
abbrev s_in_balance:Stmt:=top 35
abbrev s_size:Stmt:=top 27
abbrev s_size_above:Stmt:=top 33
abbrev s_back:Stmt:=top 30
abbrev s_backward_sum:Stmt:=top 38
abbrev s_total:Stmt:=top 29
abbrev s_onward_sum:Stmt:=top 37
abbrev s_sums_above:Stmt:=top 36
abbrev s_Wood_node:Stmt:=ji (top 47) 2
abbrev s_built:Stmt:=top 52
abbrev s_make_of:Stmt:=top 51
abbrev s_Shelf___init__:Stmt:=ji (top 76) 0
abbrev s_Shelf_make:Stmt:=ji (top 76) 1
abbrev s_seen:Stmt:=top 32
abbrev s_gather:Stmt:=top 54
abbrev s_things_of:Stmt:=top 53
abbrev s_Shelf_things:Stmt:=ji (top 76) 2
abbrev s_Shelf_deeds:Stmt:=ji (top 76) 3
abbrev s_Strict___init__:Stmt:=ji (top 73) 0
abbrev s_Wood___init__:Stmt:=ji (top 47) 0
abbrev s__law_cell:Stmt:=top 78
abbrev s_Shelf_hold:Stmt:=ji (top 76) 4
abbrev s_Shelf_back:Stmt:=ji (top 76) 11
abbrev s_check_place:Stmt:=top 49
abbrev s_Wood_turned:Stmt:=ji (top 47) 3
abbrev s_parts:Stmt:=top 31
abbrev s_lifted_left:Stmt:=top 42
abbrev s_lifted_right:Stmt:=top 43
abbrev s_balanced:Stmt:=top 41
abbrev s_joined:Stmt:=top 40
abbrev s_cut_ahead:Stmt:=top 70
abbrev s_cut:Stmt:=top 68
abbrev s_Shelf_cut:Stmt:=ji (top 76) 10
abbrev s_thing_at:Stmt:=top 56
abbrev s_at:Stmt:=top 55
abbrev s_laid_together:Stmt:=top 67
abbrev s_taken_out:Stmt:=top 62
abbrev s_out:Stmt:=top 60
abbrev s_Shelf_out:Stmt:=ji (top 76) 6
abbrev s_given:Stmt:=top 64
abbrev s_swapped:Stmt:=top 63
abbrev s_Shelf_swap:Stmt:=ji (top 76) 7
abbrev s_check_stretch:Stmt:=top 50
abbrev s_turned_part:Stmt:=top 71
abbrev s_Shelf_turned:Stmt:=ji (top 76) 8
abbrev s_laid:Stmt:=top 65
abbrev s_Shelf_laid:Stmt:=ji (top 76) 9
abbrev s__law_laid:Stmt:=top 80
abbrev s_put_in:Stmt:=top 59
abbrev s_put:Stmt:=top 57
abbrev s_Shelf_put:Stmt:=ji (top 76) 5
abbrev s__law_put_in:Stmt:=top 79
abbrev s__law_done:Stmt:=top 81
abbrev s_Strict_new_deeds:Stmt:=ji (top 73) 2
abbrev s_Strict_row:Stmt:=ji (top 74) 0
abbrev s_Strict_more:Stmt:=ji (top 73) 3
abbrev s_Strict_step:Stmt:=ji (top 73) 4
abbrev s__law_heard:Stmt:=top 82
abbrev s__law_refused:Stmt:=top 83
abbrev s__law_walked:Stmt:=top 84
abbrev s_law:Stmt:=top 85
abbrev s_Changed___init__:Stmt:=ji (top 9) 0
structure TX (K:zFr) (mg:zMg):Prop where
 ub2:mg "ValueError"=none
 uig:mg "abs"=none
 uh9:mg "bool"=none
 uij:mg "int"=none
 uaj:mg "isinstance"=none
 uah:mg "len"=none
 ubi:mg "list"=none
 uio:mg "max"=none
 uin:mg "min"=none
 ubk:mg "range"=none
 ugf:mg "reversed"=none
 uhu:mg "tuple"=none
 udf:∃t,mg "ABOUT"=some (.int 1 t)
 uab:∃t,mg "AHEAD"=some (.int 0 t)
 uia:∃t,mg "BACK"=some (.int 8 t)
 uac:∃t,mg "BEHIND"=some (.int 2 t)
 ug7:∃t,mg "HEIGHT"=some (.int 6 t)
 uby:∃t,mg "LEFT"=some (.int 2 t)
 uae:∃t,mg "MIDDLE"=some (.int 1 t)
 uef:∃t,mg "MOST_THINGS"=some (.int 2000 t)
 ubj:∃t,mg "RIGHT"=some (.int 4 t)
 uhx:∃t,mg "SIZE"=some (.int 5 t)
 ubm:∃t,mg "THING"=some (.int 3 t)
 uhv:∃t,mg "TOTAL"=some (.int 7 t)
 ubo:∃t,mg "TURNED"=some (.int 3 t)
 ubd:Fld K mg "Shelf" "done"
 uad:Fld K mg "Shelf" "held"
 uai:Fld K mg "Shelf" "wood"
 uam:Fld K mg "Strict" "mark"
 ubw:Fld K mg "Strict" "met"
 ubn:Fld K mg "Strict" "shelf"
 ubl:Fld K mg "Strict" "stood"
 ubp:Fld K mg "Wood" "adding"
 uav:Fld K mg "Wood" "nodes_made"
 ugm:∃f,mg "Changed"=some (.ref f)
 ucd:∃f,mg "NoBalance"=some (.ref f)
 uhg:∃f,mg "NoMore"=some (.ref f)
 ufd:∃f,mg "NoName"=some (.ref f)
 ucr:∃f,mg "NoNumber"=some (.ref f)
 udp:∃f,mg "NoPlace"=some (.ref f)
 uf1:∃f,mg "NoRow"=some (.ref f)
 uf0:∃f,mg "NoSum"=some (.ref f)
 udr:∃f,mg "NoThing"=some (.ref f)
 uf2:∃f,mg "NoWay"=some (.ref f)
 ub0:∃f,mg "ShelfError"=some (.ref f)
 uds:∃f,mg "TooMany"=some (.ref f)
 ov_Walker:∃f,mg "Walker"=some (.ref f)
 o_Strict_Walker:IsOwn K mg "Strict" "Walker" true
 ug2:ExcCls K mg "NoMore"
 ugp:ExcCls K mg "NoPlace"
 up:UpOk K mg up
 xi_Changed:HasXI K mg "Changed" "ShelfError" "deed" "Changed.__init__" s_Changed___init__
 xf_Changed_deed:XFld K mg "Changed" "deed"
 ct_Changed:∀c∈ct_Changed,CatB K mg c "Changed" true
 no_Changed:∀c∈no_Changed,CatB K mg c "Changed" false
 ct_NoMore:∀c∈ct_NoMore,CatB K mg c "NoMore" true
 no_NoMore:∀c∈no_NoMore,CatB K mg c "NoMore" false
 ct_NoPlace:∀c∈ct_NoPlace,CatB K mg c "NoPlace" true
 no_NoPlace:∀c∈no_NoPlace,CatB K mg c "NoPlace" false
 al_cut_rows:mg "cut_rows"=mg "cut"
 al_laid_rows:mg "laid_rows"=mg "laid"
 al_out_rows:mg "out_rows"=mg "out"
 al_put_rows:mg "put_rows"=mg "put"
 ucu:HasMth K mg "Wood" "numbered" "Wood.numbered" s_Wood_numbered
 ue4:HasDef K mg "check_room" s_check_room 0
 ug3:HasDef K mg "height" s_height 0
 uc8:HasDef K mg "height_above" s_height_above 0
 ue3:HasDef K mg "in_balance" s_in_balance 0
 uh3:HasDef K mg "size" s_size 0
 uez:HasDef K mg "size_above" s_size_above 0
 uib:HasDef K mg "back" s_back 0
 udo:HasDef K mg "backward_sum" s_backward_sum 0
 uhj:HasDef K mg "total" s_total 0
 ufc:HasDef K mg "onward_sum" s_onward_sum 0
 ue8:HasDef K mg "sums_above" s_sums_above 0
 ufo:HasMth K mg "Wood" "node" "Wood.node" s_Wood_node
 uf3:HasDef K mg "built" s_built 0
 ugj:HasDef K mg "make_of" s_make_of 0
 ubc:HasMk K mg "Shelf" "Shelf.__init__" s_Shelf___init__ 1
 ues:HasMth K mg "Shelf" "make" "Shelf.make" s_Shelf_make
 uie:HasDef K mg "seen" s_seen 0
 ueo:HasDef K mg "gather" s_gather 0
 ufn:HasDef K mg "things_of" s_things_of 0
 uc7:HasMth K mg "Shelf" "things" "Shelf.things" s_Shelf_things
 ud9:HasMth K mg "Shelf" "deeds" "Shelf.deeds" s_Shelf_deeds
 ub6:HasMk K mg "Strict" "Walker.__init__" s_Strict___init__ 0
 ubh:HasMk K mg "Wood" "Wood.__init__" s_Wood___init__ 1
 ufx:HasDef K mg "_law_cell" s__law_cell 0
 uew:HasMth K mg "Shelf" "hold" "Shelf.hold" s_Shelf_hold
 ue5:HasMth K mg "Shelf" "back" "Shelf.back" s_Shelf_back
 ubs:HasDef K mg "check_place" s_check_place 0
 udx:HasMth K mg "Wood" "turned" "Wood.turned" s_Wood_turned
 uhn:HasDef K mg "parts" s_parts 0
 uem:HasDef K mg "lifted_left" s_lifted_left 0
 udm:HasDef K mg "lifted_right" s_lifted_right 0
 uf7:HasDef K mg "balanced" s_balanced 0
 ue0:HasDef K mg "joined" s_joined 0
 uca:HasDef K mg "cut_ahead" s_cut_ahead 0
 uii:HasDef K mg "cut" s_cut 0
 ufs:HasMth K mg "Shelf" "cut" "Shelf.cut" s_Shelf_cut
 uct:HasDef K mg "thing_at" s_thing_at 0
 uir:HasDef K mg "at" s_at 0
 ucn:HasDef K mg "laid_together" s_laid_together 0
 ucb:HasDef K mg "taken_out" s_taken_out 0
 uiq:HasDef K mg "out" s_out 0
 ufv:HasMth K mg "Shelf" "out" "Shelf.out" s_Shelf_out
 uf4:HasDef K mg "given" s_given 0
 ugk:HasDef K mg "swapped" s_swapped 0
 uep:HasMth K mg "Shelf" "swap" "Shelf.swap" s_Shelf_swap
 ucw:HasDef K mg "check_stretch" s_check_stretch 0
 uee:HasDef K mg "turned_part" s_turned_part 0
 udk:HasMth K mg "Shelf" "turned" "Shelf.turned" s_Shelf_turned
 uh7:HasDef K mg "laid" s_laid 0
 ue6:HasMth K mg "Shelf" "laid" "Shelf.laid" s_Shelf_laid
 ufm:HasDef K mg "_law_laid" s__law_laid 0
 ue2:HasDef K mg "put_in" s_put_in 0
 uhh:HasDef K mg "put" s_put 0
 ub9:HasMth K mg "Shelf" "put" "Shelf.put" s_Shelf_put
 uec:HasDef K mg "_law_put_in" s__law_put_in 0
 ufk:HasDef K mg "_law_done" s__law_done 0
 ub1:HasMth K mg "Strict" "new_deeds" "Walker.new_deeds" s_Strict_new_deeds
 ub3:HasMth K mg "Strict" "row" "Strict.row" s_Strict_row
 ubr:HasMth K mg "Strict" "more" "Walker.more" s_Strict_more
 ubq:HasMth K mg "Strict" "step" "Walker.step" s_Strict_step
 ufa:HasDef K mg "_law_heard" s__law_heard 0
 udi:HasDef K mg "_law_refused" s__law_refused 0
 ued:HasDef K mg "_law_walked" s__law_walked 0
 uih:HasDef K mg "law" s_law 0
theorem zbc:FnScope ["self", "deed"] ["self", "deed"] (zi s_Changed___init__):=.auto7
theorem zkb(T:TX K mg):XInit P w K mg base 1 "Changed" (Str.ofString "the shelf has changed: ") "deed":=T.xi_Changed.xinit (k:=0) zbc (fun _ _ _ _ _ _=>ls2 fun _ _=>rfl) rfl (fun C fI cdv A outer s H E hx hs hr=>zor hx T.xi_Changed.base hs hr)
theorem sc_Wood_numbered:FnScope ["self", "rest", "number"] ["self", "rest"] (zi s_Wood_numbered):=.auto7
theorem sc_check_room:FnScope ["things"] ["things"] (zi s_check_room):=.auto7
theorem sc_height:FnScope ["make"] ["make"] (zi s_height):=.auto7
theorem sc_height_above:FnScope ["left", "right"] ["left", "right"] (zi s_height_above):=.auto7
theorem sc_in_balance:FnScope ["left", "right"] ["left", "right"] (zi s_in_balance):=.auto7
theorem sc_size:FnScope ["make"] ["make"] (zi s_size):=.auto7
theorem sc_size_above:FnScope ["left", "right"] ["left", "right"] (zi s_size_above):=.auto7
theorem sc_back:FnScope ["make"] ["make"] (zi s_back):=.auto7
theorem sc_backward_sum:FnScope ["add", "left", "thing", "right", "result"] ["add", "left", "thing", "right"] (zi s_backward_sum):=.auto7
theorem sc_total:FnScope ["make"] ["make"] (zi s_total):=.auto7
theorem sc_onward_sum:FnScope ["add", "left", "thing", "right", "result"] ["add", "left", "thing", "right"] (zi s_onward_sum):=.auto7
theorem sc_sums_above:FnScope ["add", "left", "thing", "right"] ["add", "left", "thing", "right"] (zi s_sums_above):=.auto7
theorem sc_Wood_node:FnScope ["self", "left", "thing", "right", "things", "measures", "sums"] ["self", "left", "thing", "right"] (zi s_Wood_node):=.auto7
theorem sc_built:FnScope ["wood", "things", "start", "end", "middle", "left", "right"] ["wood", "things", "start", "end"] (zi s_built):=.auto7
theorem sc_make_of:FnScope ["wood", "things"] ["wood", "things"] (zi s_make_of):=.auto7
theorem sc_Shelf___init__:FnScope ["self", "wood", "things"] ["self", "wood", "things"] (zi s_Shelf___init__):=.auto7
theorem zan(T:TX K mg)(uba:Cal P w K mg base 46 "make_of" yr)(hr:Room 46 (A.deeper (envOfC "Shelf.__init__" (zi s_Shelf___init__) s.heap.objs.size f cdv))) :
   FSs (zd8 CX0 P w K mg base ["self", "wood", "things"] "Shelf.__init__" (zi s_Shelf___init__) f cdv A outer s H E).nox (j0 s_Shelf___init__) zao:=by
 have nd:=sc_Shelf___init__.nd;exact(zc (yi T.uai (zd 0) (zd 1)) (zc (yi T.uad (zd 0) jn) (zc (yi T.ubd (zd 0) (zh1 zb)) (zh (qu (zbx (zd 2) jn) (zh (yi T.uad (zd 0) (zf uba hr.rmd (za (zd 1) (za (zd 2) zb))))) zp)))))
theorem zcb(T:TX K mg)(uba:Cal P w K mg base 46 "make_of" yr):Mak P w K mg base 47 "Shelf" z5:=T.ubc.mk1 sc_Shelf___init__ (fun _ _ _ _ _ _ _=>ls3 fun _ _ _=>⟨_,rfl,rfl⟩) (fun f cdv A outer s H E hr=>zan T uba hr)
theorem zcc(T:TX K mg)(uba:Cal P w K mg base 46 "make_of" yr):Mak P w K mg base 47 "Shelf" (znj 1 z5):=T.ubc.mk1d sc_Shelf___init__ rfl (fun _ _ _ _ _ _ _=>ls2 fun _ _=>⟨_,rfl,rfl⟩) (fun f cdv A outer s H E hr=>zan T uba hr)
theorem sc_Shelf_make:FnScope ["self"] ["self"] (zi s_Shelf_make):=.auto7
theorem sc_seen:FnScope ["make", "turned"] ["make", "turned"] (zi s_seen):=.auto7
theorem sc_gather:FnScope ["make", "turned", "found", "row"] ["make", "turned", "found"] (zi s_gather):=.auto7
theorem sc_things_of:FnScope ["make", "found"] ["make"] (zi s_things_of):=.auto7
theorem sc_Shelf_things:FnScope ["self"] ["self"] (zi s_Shelf_things):=.auto7
theorem sc_Shelf_deeds:FnScope ["self"] ["self"] (zi s_Shelf_deeds):=.auto7
theorem sc_Strict___init__:FnScope ["self", "shelf"] ["self", "shelf"] (zi s_Strict___init__):=.auto7
theorem sc_Wood___init__:FnScope ["self", "add"] ["self", "add"] (zi s_Wood___init__):=.auto7
theorem za1(T:TX K mg)(hr:Room 0 (A.deeper (envOfC "Wood.__init__" (zi s_Wood___init__) s.heap.objs.size f cdv))) :
   FSs (zd8 CX0 P w K mg base ["self", "add"] "Wood.__init__" (zi s_Wood___init__) f cdv A outer s H E).nox (j0 s_Wood___init__) yc:=by
 have nd:=sc_Wood___init__.nd;exact(zc (yi T.ubp (zd 0) (zd 1)) (zh (yi T.uav (zd 0) zl)))
theorem zcp(T:TX K mg):Mak P w K mg base 1 "Wood" jg:=T.ubh.mk1 sc_Wood___init__ (fun _ _ _ _ _ _ _=>ls2 fun _ _=>⟨_,rfl,rfl⟩) (fun f cdv A outer s H E hr=>za1 T  hr)
theorem zcq(T:TX K mg):Mak P w K mg base 1 "Wood" (znj 1 jg):=T.ubh.mk1d sc_Wood___init__ rfl (fun _ _ _ _ _ _ _=>ls1 fun _=>⟨_,rfl,rfl⟩) (fun f cdv A outer s H E hr=>za1 T  hr)
theorem sc__law_cell:FnScope ["_law_script", "_law_k", "_law_cell_here"] ["_law_script", "_law_k"] (zi s__law_cell):=.auto7
theorem sc_Shelf_hold:FnScope ["self", "make", "deed"] ["self", "make", "deed"] (zi s_Shelf_hold):=.auto7
theorem sc_Shelf_back:FnScope ["self", "make"] ["self", "make"] (zi s_Shelf_back):=.auto7
theorem sc_check_place:FnScope ["place", "end"] ["place", "end"] (zi s_check_place):=.auto7
theorem sc_Wood_turned:FnScope ["self", "make", "row"] ["self", "make"] (zi s_Wood_turned):=.auto7
theorem sc_parts:FnScope ["wood", "make", "ahead", "behind"] ["wood", "make"] (zi s_parts):=.auto7
theorem sc_lifted_left:FnScope ["wood", "left", "thing", "right", "outer", "inner", "ahead", "behind"] ["wood", "left", "thing", "right"] (zi s_lifted_left):=.auto7
theorem sc_lifted_right:FnScope ["wood", "left", "thing", "right", "outer", "inner", "ahead", "behind"] ["wood", "left", "thing", "right"] (zi s_lifted_right):=.auto7
theorem sc_balanced:FnScope ["wood", "left", "thing", "right"] ["wood", "left", "thing", "right"] (zi s_balanced):=.auto7
theorem sc_joined:FnScope ["wood", "left", "thing", "right", "row"] ["wood", "left", "thing", "right"] (zi s_joined):=.auto7
theorem sc_cut_ahead:FnScope ["wood", "make", "place", "row", "middle", "halves"] ["wood", "make", "place"] (zi s_cut_ahead):=.auto7
theorem sc_cut:FnScope ["wood", "make", "place"] ["wood", "make", "place"] (zi s_cut):=.auto7
theorem sc_Shelf_cut:FnScope ["self", "place", "halves", "others"] ["self", "place"] (zi s_Shelf_cut):=.auto7
theorem sc_thing_at:FnScope ["make", "turned", "place", "row", "middle"] ["make", "turned", "place"] (zi s_thing_at):=.auto7
theorem sc_at:FnScope ["make", "place"] ["make", "place"] (zi s_at):=.auto7
theorem sc_laid_together:FnScope ["wood", "one", "other"] ["wood", "one", "other"] (zi s_laid_together):=.auto7
theorem zdx(T:TX K mg)(ua7:Cal P w K mg base (7+40) "joined" (kq 40))(uau:Cal P w K mg base (2+40) "thing_at" (xq 40)){self:G}{n:Nat}(hself:Cal P w K mg base (48+2*n) "taken_out" self)(hr0:Room (48+2*n) (A.deeper (envOfC "laid_together" (zi s_laid_together) s.heap.objs.size f cdv))) :
   FSs (zd8 CX0 P w K mg base ["wood", "one", "other"] "laid_together" (zi s_laid_together) f cdv A outer s H E).nox (j0 s_laid_together) (za3 self):=by
 have nd:=sc_laid_together.nd;have hr:=hr0.mono (z3d 48 (2*n));exact(zc (qu (zdu (zd 1) jn) (zh (zn (zd 2))) zp) (zc (qu (zdu (zd 2) jn) (zh (zn (zd 1))) zp) (zh (zn (zf ua7 hr.rmd (za (zd 0) (za (zd 1) (za (zf uau hr.rmd (za (zd 2) (za yb (za zl zb)))) (za (zf hself hr0 (za (zd 0) (za (zd 2) (za zl zb)))) zb)))))))))
theorem zam(T:TX K mg)(ua7:Cal P w K mg base (7+40) "joined" (kq 40))(uau:Cal P w K mg base (2+40) "thing_at" (xq 40)){self:G}{n:Nat}(hself:Cal P w K mg base (48+2*n) "taken_out" self):Cal P w K mg base (48+2*n+1) "laid_together" (jx self):=T.ucn.cal sc_laid_together (fun _ _ _ _ _ _=>ls3 fun _ _ _=>rfl) (fun f cdv A outer s H E hr=>zdx T ua7 uau hself hr)
theorem sc_taken_out:FnScope ["wood", "make", "place", "row", "middle"] ["wood", "make", "place"] (zi s_taken_out):=.auto7
theorem zh6(T:TX K mg)(ua3:Cal P w K mg base 6 "balanced" jy)(ub5:Cal P w K mg base 3 "parts" xo)(ucl:Cal P w K mg base 1 "size" jk){self aux:G}{n:Nat}(hself:Cal P w K mg base (48+2*n) "taken_out" self)(haux:Cal P w K mg base (48+2*n+1) "laid_together" aux)(hr0:Room (48+2*n+1) (A.deeper (envOfC "taken_out" (zi s_taken_out) s.heap.objs.size f cdv))) :
   FSs (zd8 CX0 P w K mg base ["wood", "make", "place", "row", "middle"] "taken_out" (zi s_taken_out) f cdv A outer s H E).nox (j0 s_taken_out) (zd0 self aux):=by
 have nd:=sc_taken_out.nd;have hr1:=hr0.mono (z4f (48+2*n));have hr:=hr1.mono (z3d 48 (2*n));exact(zc (zo 3 (zf ub5 hr.rmd (za (zd 0) (za (zd 1) zb))) nd) (zc (zo 4 (zf ucl hr.rmd (za (zr (zd 3) (zu T.uab)) zb)) nd) (zc (qu (zpp (zd 2) (zd 4)) (zh (zn (zf ua3 hr.rmd (za (zd 0) (za (zf hself hr1 (za (zd 0) (za (zr (zd 3) (zu T.uab)) (za (zd 2) zb)))) (za (zr (zd 3) (zu T.uae)) (za (zr (zd 3) (zu T.uac)) zb))))))) zp) (zc (qu (zfl (zd 2) (zd 4)) (zh (zn (zf ua3 hr.rmd (za (zd 0) (za (zr (zd 3) (zu T.uab)) (za (zr (zd 3) (zu T.uae)) (za (zf hself hr1 (za (zd 0) (za (zr (zd 3) (zu T.uac)) (za (yj (yj (zd 2) (zd 4)) zl) zb)))) zb))))))) zp) (zh (zn (zf haux hr0 (za (zd 0) (za (zr (zd 3) (zu T.uab)) (za (zr (zd 3) (zu T.uac)) zb))))))))))
theorem zcj(T:TX K mg)(ua3:Cal P w K mg base 6 "balanced" jy)(ub5:Cal P w K mg base 3 "parts" xo)(ucl:Cal P w K mg base 1 "size" jk)(ua7:Cal P w K mg base (7+40) "joined" (kq 40))(uau:Cal P w K mg base (2+40) "thing_at" (xq 40)):∀n:Nat,Cal P w K mg base (48+2*n) "taken_out" (jw n)
 |0=>T.ucb.none0 (ps:=["wood", "make", "place"]) (fun _ _ _ _ _ _=>ls3 fun _ _ _=>rfl)
 | n+1=>by have ih:=zcj T ua3 ub5 ucl ua7 uau n;exact(show Cal P w K mg base ((48+2*n+1)+1) "taken_out" (jw (n+1))from T.ucb.cal sc_taken_out (fun _ _ _ _ _ _=>ls3 fun _ _ _=>rfl) (fun f cdv A outer s H E hr=>zh6 T ua3 ub5 ucl ih (zam T ua7 uau ih) hr))
theorem sc_out:FnScope ["wood", "make", "place"] ["wood", "make", "place"] (zi s_out):=.auto7
theorem sc_Shelf_out:FnScope ["self", "place", "thing"] ["self", "place"] (zi s_Shelf_out):=.auto7
theorem sc_given:FnScope ["wood", "make", "place", "thing", "row", "middle"] ["wood", "make", "place", "thing"] (zi s_given):=.auto7
theorem sc_swapped:FnScope ["wood", "make", "place", "thing"] ["wood", "make", "place", "thing"] (zi s_swapped):=.auto7
theorem sc_Shelf_swap:FnScope ["self", "place", "thing"] ["self", "place", "thing"] (zi s_Shelf_swap):=.auto7
theorem sc_check_stretch:FnScope ["make", "start", "end"] ["make", "start", "end"] (zi s_check_stretch):=.auto7
theorem sc_turned_part:FnScope ["wood", "make", "start", "end", "behind", "ahead", "begin"] ["wood", "make", "start", "end"] (zi s_turned_part):=.auto7
theorem sc_Shelf_turned:FnScope ["self", "start", "end"] ["self", "start", "end"] (zi s_Shelf_turned):=.auto7
theorem sc_laid:FnScope ["wood", "one", "other"] ["wood", "one", "other"] (zi s_laid):=.auto7
theorem sc_Shelf_laid:FnScope ["self", "other", "behind"] ["self", "other"] (zi s_Shelf_laid):=.auto7
theorem sc__law_laid:FnScope ["_law_wood", "_law_shelf", "_law_things", "_law_cell_here", "_law_fresh", "_law_more"] ["_law_wood", "_law_shelf", "_law_things", "_law_cell_here", "_law_fresh"] (zi s__law_laid):=.auto7
theorem sc_put_in:FnScope ["wood", "make", "place", "thing", "row", "middle"] ["wood", "make", "place", "thing"] (zi s_put_in):=.auto7
theorem sc_put:FnScope ["wood", "make", "place", "thing"] ["wood", "make", "place", "thing"] (zi s_put):=.auto7
theorem sc_Shelf_put:FnScope ["self", "place", "thing"] ["self", "place", "thing"] (zi s_Shelf_put):=.auto7
theorem sc__law_put_in:FnScope ["_law_shelf", "_law_things", "_law_cell_here", "_law_fresh", "_law_spot"] ["_law_shelf", "_law_things", "_law_cell_here", "_law_fresh"] (zi s__law_put_in):=.auto7
theorem sc__law_done:FnScope ["_law_wood", "_law_shelf", "_law_things", "_law_kept", "_law_cell_here", "_law_fresh", "_law_way", "_law_spot", "_law_start", "_law_end", "_law_make", "_law_some"] ["_law_wood", "_law_shelf", "_law_things", "_law_kept", "_law_cell_here", "_law_fresh"] (zi s__law_done):=.auto7
theorem sc_Strict_new_deeds:FnScope ["self"] ["self"] (zi s_Strict_new_deeds):=.auto7
theorem sc_Strict_row:FnScope ["self", "since"] ["self"] (zi s_Strict_row):=.auto7
theorem sc_Strict_more:FnScope ["self", "make"] ["self"] (zi s_Strict_more):=.auto7
theorem sc_Strict_step:FnScope ["self", "make", "thing"] ["self"] (zi s_Strict_step):=.auto7
theorem sc__law_heard:FnScope ["_law_walker", "_law_stepped", "_law_heard_here", "e", "_law_others"] ["_law_walker", "_law_stepped"] (zi s__law_heard):=.auto7
theorem sc__law_refused:FnScope ["_law_shelf", "_law_spot", "_law_heard_here"] ["_law_shelf", "_law_spot"] (zi s__law_refused):=.auto7
theorem sc__law_walked:FnScope ["_law_walker", "_law_things", "_law_steps", "_law_k", "_law_there", "_law_found", "_law_due"] ["_law_walker", "_law_things", "_law_steps"] (zi s__law_walked):=.auto7
theorem sc_law:FnScope ["_law_script", "_law_many", "_law_things", "_law_wood", "_law_shelf", "_law_kept", "_law_k", "_law_walker", "_law_first", "_law_deed", "_law_turn", "_law_stepped"] ["_law_script"] (zi s_law):=.auto7
structure CX_law (P:Program) (w:World) (K:zFr) (mg:zMg) (base:Heap):Prop where
 mk ::
 uaq:Mak P w K mg base 47 "Shelf" z5
 uap:Mth P w K mg base 1 "Shelf" "make" jc
 ua4:Mth P w K mg base 44 "Shelf" "things" ke
 uan:Mak P w K mg base 2 "Strict" qz
 uaw:Mak P w K mg base 1 "Wood" (znj 1 jg)
 uag:Cal P w K mg base 1 "_law_cell" qb
 ua8:Cal P w K mg base 133 "_law_done" jf
 uao:Cal P w K mg base 45 "_law_heard" qh
 ua6:Cal P w K mg base 50 "_law_refused" kd
 uay:Cal P w K mg base 46 "_law_walked" xy
theorem z0g(T:TX K mg)(C:CX_law P w K mg base)(hr:Room 133 (A.deeper (envOfC "law" (zi s_law) s.heap.objs.size f cdv))) :
   FSs (zd8 CX0 P w K mg base ["_law_script", "_law_many", "_law_things", "_law_wood", "_law_shelf", "_law_kept", "_law_k", "_law_walker", "_law_first", "_law_deed", "_law_turn", "_law_stepped"] "law" (zi s_law) f cdv A outer s H E).nox (j0 s_law) zxt:=by
 have nd:=sc_law.nd;exact(zc (zo 1 (xj (zf C.uag hr.rmd (za (zd 0) (za zl zb))) zl) nd) (zc (qu (zcr hr (xj (zf C.uag hr.rmd (za (zd 0) (za zl zb))) zl) zl) (zh (zo 1 zl nd)) zp) (zc (zeq 2 (zgx (x:="_law_k") (N':=[]) (fr:=[]) (by decide +kernel) rfl rfl rfl rfl rfl) T.ubk (zd 1) (fun _ _ _ _=>(zr (zax (za (yj (zd 0) zl) (za xw zb))) (zpo T.uij (za (ztv hr (zd 0) zl) zb)))) nd) (zc (zo 3 (zpn C.uaw hr.rmd) nd) (zc (zo 4 (zcd C.uaq hr.rmd (za (zd 3) (za (zbv T.ubi (za (zd 2) zb)) zb))) nd) (zc (zo 5 (zh1 (za (qi (za (j6 C.uap hr.rmd (zd 4)) (za (zbv T.ubi (za (zd 2) zb)) zb))) zb)) nd) (zc (zh0 6 nd T.ubk (xj (zf C.uag hr.rmd (za (zd 0) (za zl zb))) zl) (zc (zo 2 (zr (zf C.ua8 hr.rmd (za (zd 3) (za (zd 4) (za (zd 2) (za (zd 5) (za (zf C.uag hr.rmd (za (zd 0) (za (qf zl (zd 6)) zb))) (za (qf zl (zck zl (zd 6))) zb))))))) zl) nd) (zh (zdq (zd 5) (qi (za (j6 C.uap hr.rmd (zd 4)) (za (zbv T.ubi (za (zd 2) zb)) zb)))))) z5b) (zc (zo 7 (zcd C.uan hr.rmd (za (zd 4) zb)) nd) (zc (qu (zui (zw3 (zbw (zay (zxc T.o_Strict_Walker T.uaj (za (zd 7) (za (ya T.ov_Walker) zb))))) (zqr (zbw (zay (zf C.uay hr.rmd (za (zd 7) (za (zd 2) (za (xj (zf C.uag hr.rmd (za (zd 0) (za zl zb))) (qf (j7 T.uah (za (zd 2) zb)) zl)) zb))))))))) (zh (zn yb)) zp) (zc (qu (zbw (zay (zf C.ua6 hr.rmd (za (zd 4) (za (qf (qf (j7 T.uah (za (zd 2) zb)) zl) (xj (zf C.uag hr.rmd (za (zd 0) (za zl zb))) zl)) zb))))) (zh (zn yb)) zp) (zc (qu (zkg hr (zf C.uao hr.rmd (za (zcd C.uan hr.rmd (za (zd 4) zb)) (za yb zb))) (zz8 hr (zd 2) (zax zb))) (zh (zn yb)) zp) (zc (zo 8 jn nd) (zc (zh0 6 nd T.ubk (qf zl (xj (zf C.uag hr.rmd (za (zd 0) (za zl zb))) zl)) (zc (zqs [2,9] (za6 2 nd (za6 9 nd Names.nil)) (zf C.ua8 hr.rmd (za (zd 3) (za (zd 4) (za (zd 2) (za (zd 5) (za (zf C.uag hr.rmd (za (zd 0) (za (qf zl (zd 6)) zb))) (za (qf zl (zck zl (zd 6))) zb)))))))) (zc (qu (zdu (zd 8) jn) (zh (zo 8 (zd 9) nd)) zp) (zc (zo 10 (ztv hr (xj (zf C.uag hr.rmd (za (zd 0) (za (qf zl (zd 6)) zb))) zl) zl) nd) (zh (ztn 11 nd (zax (za (zd 10) (za (zqw (zd 10)) (za (zd 10) zb)))) (zh (qu (zkg hr (zf C.uao hr.rmd (za (zd 7) (za (zd 11) zb))) (zax (za (zd 8) (za yb (za yb (za yb zb)))))) (zh (zn yb)) zp)) z5b))))) z5b) (zh (zn (zm4 (zf C.uay hr.rmd (za (zcd C.uan hr.rmd (za (zd 4) zb)) (za (zd 2) (za (zw9 T.uin (za (qf (j7 T.uah (za (zd 2) zb)) zl) (za zl zb))) zb)))) (zm2 (ztv hr (j6 C.ua4 hr.rmd (zd 4)) (zd 2)))))))))))))))))))
theorem law_fn{P:Program}{w:World}{K:zFr}{mg:zMg}(T:TX K mg)(C:∀base,CX_law P w K mg base):∃fa fd,mg "law"=some (.ref fa)/\(∀(s:Shared) (v:Value),BindsTo s fd ⟨[v],[]⟩ [("_law_script",v)])/\∀base,FnOk P w K mg base CX0 134 fa fd ["_law_script"] (spG K mg g_law):=by obtain⟨f,fd,dV,F,hm,rfl⟩:=T.uih.ex;have B:=F.binds0 (ps:=["_law_script"]) (fun _ _ _ _ _ _=>ls1 fun _=>rfl);refine⟨f,fd,hm,?_,fun base=>F.ok sc_law fun cdv A outer s H E hr=>z0g T (C base) hr⟩;obtain⟨oc,od,kV,doc,pm,an,cdv,ct,osl,rfl,lk,hcd⟩:=F.ex;exact fun s v=>.of_eq rfl
theorem law_all{P:Program}{w:World}{K:zFr}{mg:zMg}(T:TX K mg):∃fa fd,mg "law"=some (.ref fa)/\(∀(s:Shared) (v:Value),BindsTo s fd ⟨[v],[]⟩ [("_law_script",v)])/\∀base,FnOk P w K mg base CX0 134 fa fd ["_law_script"] (spG K mg g_law):=by
 refine law_fn T fun base=>?_;have ubg:Mth P w K mg base 1 "Wood" "numbered" xf:=T.ucu.mth sc_Wood_numbered (fun _ _ _ _ _ _=>ls2 fun _ _=>rfl) (fun f cdv A outer s H E hr=>by as_aux_lemma=>
   have nd:=sc_Wood_numbered.nd;exact(zc (zo 2 (jh T.uav (zd 0)) nd) (zc (yi T.uav (zd 0) (qf (zd 2) zl)) (zh (zn (qf (qi (za (zd 2) zb)) (zd 1)))))))
 have ua1:Cal P w K mg base 1 "check_room" xu:=(T.ue4.cal sc_check_room (fun _ _ _ _ _ _=>ls1 fun _=>rfl) (fun f cdv A outer s H E hr=>by as_aux_lemma=>
   have nd:=sc_check_room.nd;exact(zh (qu (zfl (zd 0) (zu T.uef)) (zh za8) zp))))
 have uak:Cal P w K mg base 1 "height" jp:=(T.ug3.cal sc_height (fun _ _ _ _ _ _=>ls1 fun _=>rfl) (fun f cdv A outer s H E hr=>by as_aux_lemma=>
   have nd:=sc_height.nd;exact(zc (qu (zdu (zd 0) jn) (zh (zn zl)) zp) (zh (zn (zr (zd 0) (zu T.ug7)))))))
 have ucz:Cal P w K mg base 2 "height_above" ka:=(T.uc8.cal sc_height_above (fun _ _ _ _ _ _=>ls2 fun _ _=>rfl) (fun f cdv A outer s H E hr=>by as_aux_lemma=>
   have nd:=sc_height_above.nd;exact(zh (zn (qf zl (zxa T.uio (za (zf uak hr.rmd (za (zd 0) zb)) (za (zf uak hr.rmd (za (zd 1) zb)) zb))))))))
 have ubf:Cal P w K mg base 2 "in_balance" xr:=(T.ue3.cal sc_in_balance (fun _ _ _ _ _ _=>ls2 fun _ _=>rfl) (fun f cdv A outer s H E hr=>by as_aux_lemma=>
   have nd:=sc_in_balance.nd;exact(zh (zn (zz9 (zxd T.uig (za (yj (zf uak hr.rmd (za (zd 0) zb)) (zf uak hr.rmd (za (zd 1) zb))) zb)) zl)))))
 have uaf:Cal P w K mg base 1 "size" jk:=(T.uh3.cal sc_size (fun _ _ _ _ _ _=>ls1 fun _=>rfl) (fun f cdv A outer s H E hr=>by as_aux_lemma=>
   have nd:=sc_size.nd;exact(zc (qu (zdu (zd 0) jn) (zh (zn zl)) zp) (zh (zn (zr (zd 0) (zu T.uhx)))))))
 have ue9:Cal P w K mg base 2 "size_above" yf:=(T.uez.cal sc_size_above (fun _ _ _ _ _ _=>ls2 fun _ _=>rfl) (fun f cdv A outer s H E hr=>by as_aux_lemma=>
   have nd:=sc_size_above.nd;exact(zh (zn (qf (qf (zf uaf hr.rmd (za (zd 0) zb)) zl) (zf uaf hr.rmd (za (zd 1) zb)))))))
 have ue7:Cal P w K mg base 1 "back" zdp:=(T.uib.cal sc_back (fun _ _ _ _ _ _=>ls1 fun _=>rfl) (fun f cdv A outer s H E hr=>by as_aux_lemma=>
   have nd:=sc_back.nd;exact(zc (qu (zdu (zd 0) jn) (zh (zn jn)) zp) (zh (zn (zr (zd 0) (zu T.uia)))))))
 have hft:∀x g,ft x=some g->Cal P w K mg base 0 x g:=by intro x g e;unfold ft at e;cases e
 have uc3:Cal P w K mg base 2 "backward_sum" ym:=(T.udo.cal sc_backward_sum (fun _ _ _ _ _ _=>ls4 fun _ _ _ _=>rfl) (fun f cdv A outer s H E hr=>by as_aux_lemma=>
   have nd:=sc_backward_sum.nd;exact(zc (zo 4 (zd 2) nd) (zc (qu (zbx (zd 3) jn) (zh (zo 4 (zcy hft hr.rmd (zd 0) (za (zf ue7 hr.rmd (za (zd 3) zb)) (za (zd 4) zb))) nd)) zp) (zc (qu (zbx (zd 1) jn) (zh (zo 4 (zcy hft hr.rmd (zd 0) (za (zd 4) (za (zf ue7 hr.rmd (za (zd 1) zb)) zb))) nd)) zp) (zh (zn (zd 4))))))))
 have uc5:Cal P w K mg base 1 "total" y9:=(T.uhj.cal sc_total (fun _ _ _ _ _ _=>ls1 fun _=>rfl) (fun f cdv A outer s H E hr=>by as_aux_lemma=>
   have nd:=sc_total.nd;exact(zc (qu (zdu (zd 0) jn) (zh (zn jn)) zp) (zh (zn (zr (zd 0) (zu T.uhv)))))))
 have ufb:Cal P w K mg base 2 "onward_sum" zau:=(T.ufc.cal sc_onward_sum (fun _ _ _ _ _ _=>ls4 fun _ _ _ _=>rfl) (fun f cdv A outer s H E hr=>by as_aux_lemma=>
   have nd:=sc_onward_sum.nd;exact(zc (zo 4 (zd 2) nd) (zc (qu (zbx (zd 1) jn) (zh (zo 4 (zcy hft hr.rmd (zd 0) (za (zf uc5 hr.rmd (za (zd 1) zb)) (za (zd 4) zb))) nd)) zp) (zc (qu (zbx (zd 3) jn) (zh (zo 4 (zcy hft hr.rmd (zd 0) (za (zd 4) (za (zf uc5 hr.rmd (za (zd 3) zb)) zb))) nd)) zp) (zh (zn (zd 4))))))))
 have ue1:Cal P w K mg base 3 "sums_above" kj:=(T.ue8.cal sc_sums_above (fun _ _ _ _ _ _=>ls4 fun _ _ _ _=>rfl) (fun f cdv A outer s H E hr=>by as_aux_lemma=>
   have nd:=sc_sums_above.nd;exact(zc (qu (zdu (zd 0) jn) (zh (zn (qi (za jn (za jn zb))))) zp) (zh (zn (qi (za (zf ufb hr.rmd (za (zd 0) (za (zd 1) (za (zd 2) (za (zd 3) zb))))) (za (zf uc3 hr.rmd (za (zd 0) (za (zd 1) (za (zd 2) (za (zd 3) zb))))) zb))))))))
 have uaa:Mth P w K mg base 4 "Wood" "node" z8:=T.ufo.mth sc_Wood_node (fun _ _ _ _ _ _=>ls4 fun _ _ _ _=>rfl) (fun f cdv A outer s H E hr=>by as_aux_lemma=>
   have nd:=sc_Wood_node.nd;exact(zc (zo 4 (zf ue9 hr.rmd (za (zd 1) (za (zd 3) zb))) nd) (zc (qq (zf ua1 hr.rmd (za (zd 4) zb))) (zc (qu (zbw (zay (zf ubf hr.rmd (za (zd 1) (za (zd 3) zb))))) (zh za8) zp) (zc (zo 5 (qi (za (zd 4) (za (zf ucz hr.rmd (za (zd 1) (za (zd 3) zb))) zb))) nd) (zc (zo 6 (zf ue1 hr.rmd (za (jh T.ubp (zd 0)) (za (zd 1) (za (zd 2) (za (zd 3) zb))))) nd) (zh (zn (qa ubg hr.rmd (zd 0) (za (qf (qf (qi (za yb (za (zd 1) (za (zd 2) (za (zd 3) zb))))) (zd 5)) (zd 6)) zb))))))))))
 have udh:∀n:Nat,Cal P w K mg base (5+n) "built" (zfj n):=fun n=>by
   induction n with
   |zero=>exact T.uf3.none0 (ps:=["wood", "things", "start", "end"]) (fun _ _ _ _ _ _=>ls4 fun _ _ _ _=>rfl)
   | succ n hself=>exact T.uf3.cal sc_built (fun _ _ _ _ _ _=>ls4 fun _ _ _ _=>rfl) (fun f cdv A outer s H E hr0=>by as_aux_lemma=>
     have nd:=sc_built.nd;have hr:=hr0.mono (z3d 5 n);exact(zc (qu (zcr hr (zd 2) (zd 3)) (zh (zn jn)) zp) (zc (zo 4 (zds (qf (zd 2) (zd 3)) zl) nd) (zc (zo 5 (zf hself hr0 (za (zd 0) (za (zd 1) (za (zd 2) (za (zd 4) zb))))) nd) (zc (zo 6 (zf hself hr0 (za (zd 0) (za (zd 1) (za (qf (zd 4) zl) (za (zd 3) zb))))) nd) (zh (zn (qa uaa hr.rmd (zd 0) (za (zd 5) (za (zr (zd 1) (zd 4)) (za (zd 6) zb)))))))))))
 have udh:=udh 40;have udq:Cal P w K mg base 46 "make_of" yr:=(T.ugj.cal sc_make_of (fun _ _ _ _ _ _=>ls2 fun _ _=>rfl) (fun f cdv A outer s H E hr=>by as_aux_lemma=>
   have nd:=sc_make_of.nd;exact(zc (qq (zf ua1 hr.rmd (za (j7 T.uah (za (zd 1) zb)) zb))) (zh (zn (zf udh hr.rmd (za (zd 0) (za (zd 1) (za zl (za (j7 T.uah (za (zd 1) zb)) zb))))))))))
 have uaq:=zcb (P:=P) (w:=w) (base:=base) T udq;have ubv:=zcc (P:=P) (w:=w) (base:=base) T udq;have uap:Mth P w K mg base 1 "Shelf" "make" jc:=T.ues.mth sc_Shelf_make (fun _ _ _ _ _ _=>ls1 fun _=>rfl) (fun f cdv A outer s H E hr=>by as_aux_lemma=>
   have nd:=sc_Shelf_make.nd;exact(zh (zn (jh T.uad (zd 0)))))
 have ugw:Cal P w K mg base 1 "seen" zjf:=(T.uie.cal sc_seen (fun _ _ _ _ _ _=>ls2 fun _ _=>rfl) (fun f cdv A outer s H E hr=>by as_aux_lemma=>
   have nd:=sc_seen.nd;exact(zc (qu (zcr hr (zr (zd 0) (zu T.udf)) (zd 1)) (zh (zn (qi (za (zr (zd 0) (zu T.uby)) (za (zr (zd 0) (zu T.ubm)) (za (zr (zd 0) (zu T.ubj)) (za yb zb))))))) zp) (zh (zn (qi (za (zr (zd 0) (zu T.ubj)) (za (zr (zd 0) (zu T.ubm)) (za (zr (zd 0) (zu T.uby)) (za yb zb))))))))))
 have ucf:∀n:Nat,Cal P w K mg base (2+n) "gather" (zcx n):=fun n=>by
   induction n with
   |zero=>exact T.ueo.none0 (ps:=["make", "turned", "found"]) (fun _ _ _ _ _ _=>ls3 fun _ _ _=>rfl)
   | succ n hself=>exact T.ueo.cal sc_gather (fun _ _ _ _ _ _=>ls3 fun _ _ _=>rfl) (fun f cdv A outer s H E hr0=>by as_aux_lemma=>
     have nd:=sc_gather.nd;have hr:=hr0.mono (z3d 2 n);exact(zc (qu (zdu (zd 0) jn) (zh ztm) zp) (zc (zo 3 (zf ugw hr.rmd (za (zd 0) (za (zd 1) zb))) nd) (zc (qq (zf hself hr0 (za (zr (zd 3) (zu T.uab)) (za (zr (zd 3) (zu T.ubo)) (za (zd 2) zb))))) (zc (zdq (zd 2) (zr (zd 3) (zu T.uae))) (zh (qq (zf hself hr0 (za (zr (zd 3) (zu T.uac)) (za (zr (zd 3) (zu T.ubo)) (za (zd 2) zb)))))))))))
 have ucf:=ucf 40;have ufw:Cal P w K mg base 43 "things_of" zaa:=(T.ufn.cal sc_things_of (fun _ _ _ _ _ _=>ls1 fun _=>rfl) (fun f cdv A outer s H E hr=>by as_aux_lemma=>
   have nd:=sc_things_of.nd;exact(zc (zo 1 (zh1 zb) nd) (zc (qq (zf ucf hr.rmd (za (zd 0) (za yb (za (zd 1) zb))))) (zh (zn (zd 1))))))).frz
 have ua4:Mth P w K mg base 44 "Shelf" "things" ke:=T.uc7.mth sc_Shelf_things (fun _ _ _ _ _ _=>ls1 fun _=>rfl) (fun f cdv A outer s H E hr=>by as_aux_lemma=>
   have nd:=sc_Shelf_things.nd;exact(zh (zn (zf ufw hr.rmd (za (jh T.uad (zd 0)) zb)))))
 have ubt:Mth P w K mg base 1 "Shelf" "deeds" x4:=T.ud9.mth sc_Shelf_deeds (fun _ _ _ _ _ _=>ls1 fun _=>rfl) (fun f cdv A outer s H E hr=>by as_aux_lemma=>
   have nd:=sc_Shelf_deeds.nd;exact(zh (zn (zbv T.ubi (za (jh T.ubd (zd 0)) zb)))))
 have uan:Mak P w K mg base 2 "Strict" qz:=T.ub6.mk0 sc_Strict___init__ (fun _ _ _ _ _ _=>ls2 fun _ _=>rfl) (fun f cdv A outer s H E hr=>by as_aux_lemma=>
   have nd:=sc_Strict___init__.nd;exact(zc (yi T.ubn (zd 0) (zd 1)) (zc (yi T.ubl (zd 0) (j6 uap hr.rmd (zd 1))) (zc (yi T.ubw (zd 0) (j7 T.uah (za (j6 ubt hr.rmd (zd 1)) zb))) (zh (yi T.uam (zd 0) zl))))))
 have uhi:=zcp (P:=P) (w:=w) (base:=base) T ;have uaw:=zcq (P:=P) (w:=w) (base:=base) T ;have uag:Cal P w K mg base 1 "_law_cell" qb:=(T.ufx.cal sc__law_cell (fun _ _ _ _ _ _=>ls2 fun _ _=>rfl) (fun f cdv A outer s H E hr=>by as_aux_lemma=>
   have nd:=sc__law_cell.nd;exact(zc (zo 2 (qf (zck (zck (zd 1) (zd 1)) zl) zl) nd) (zc (qu (zfl (j7 T.uah (za (zd 0) zb)) zl) (zh (zo 2 (qf (xj (zr (zd 0) (xj (zd 1) (j7 T.uah (za (zd 0) zb)))) (zw8 zl zl)) (zck (zds (zd 1) (j7 T.uah (za (zd 0) zb))) zl)) nd)) zp) (zh (zn (xj (zck (xj (qf (zck (zd 2) zl) (zck (zd 1) zl)) zl) (qf (xj (zd 2) zl) zl)) zl)))))))
 have ual:Mth P w K mg base 1 "Shelf" "hold" je:=T.uew.mth sc_Shelf_hold (fun _ _ _ _ _ _=>ls3 fun _ _ _=>rfl) (fun f cdv A outer s H E hr=>by as_aux_lemma=>
   have nd:=sc_Shelf_hold.nd;exact(zc (yi T.uad (zd 0) (zd 1)) (zh (zdq (jh T.ubd (zd 0)) (zd 2)))))
 have uff:Mth P w K mg base 2 "Shelf" "back" zaw:=T.ue5.mth sc_Shelf_back (fun _ _ _ _ _ _=>ls2 fun _ _=>rfl) (fun f cdv A outer s H E hr=>by as_aux_lemma=>
   have nd:=sc_Shelf_back.nd;exact(zh (qq (qa ual hr.rmd (zd 0) (za (zd 1) (za (qi (za xw (za (zf uaf hr.rmd (za (zd 1) zb)) zb))) zb))))))
 have uar:Cal P w K mg base 1 "check_place" jl:=(T.ubs.cal sc_check_place (fun _ _ _ _ _ _=>ls2 fun _ _=>rfl) (fun f cdv A outer s H E hr=>by as_aux_lemma=>
   have nd:=sc_check_place.nd;exact(zh (qu (zbw (zm5 zl (zd 0) (zd 1))) (zh za8) zp))))
 have xl:RCal P w K mg base 1 "check_place" xl:=T.ubs.rcal sc_check_place (fun _ _ _ _ _ _=>ls2 fun _ _=>rfl) (fun f cdv A outer s H E hr=>by as_aux_lemma=>
   have nd:=sc_check_place.nd;exact(zll (zbw (zm5 zl (zd 0) (zd 1))) (y4 (ziy T.ugp (za xw zb))) ze4))
 have ubb:Mth P w K mg base 2 "Wood" "turned" q9:=T.udx.mth sc_Wood_turned (fun _ _ _ _ _ _=>ls2 fun _ _=>rfl) (fun f cdv A outer s H E hr=>by as_aux_lemma=>
   have nd:=sc_Wood_turned.nd;exact(zc (qu (zdu (zd 1) jn) (zh (zn jn)) zp) (zc (zo 2 (qi (za (zr (zd 1) (zu T.uby)) (za (zr (zd 1) (zu T.ubm)) (za (zr (zd 1) (zu T.ubj)) zb)))) nd) (zh (zn (qa ubg hr.rmd (zd 0) (za (qf (qf (qi (za (zqw (zr (zd 1) (zu T.udf))) zb)) (zd 2)) (qi (za (zf uaf hr.rmd (za (zd 1) zb)) (za (zf uak hr.rmd (za (zd 1) zb)) (za (zf ue7 hr.rmd (za (zd 1) zb)) (za (zf uc5 hr.rmd (za (zd 1) zb)) zb)))))) zb)))))))
 have uas:Cal P w K mg base 3 "parts" xo:=(T.uhn.cal sc_parts (fun _ _ _ _ _ _=>ls2 fun _ _=>rfl) (fun f cdv A outer s H E hr=>by as_aux_lemma=>
   have nd:=sc_parts.nd;exact(zc (qu (zbw (zay (zr (zd 1) (zu T.udf)))) (zh (zn (qi (za (zr (zd 1) (zu T.uby)) (za (zr (zd 1) (zu T.ubm)) (za (zr (zd 1) (zu T.ubj)) zb)))))) zp) (zc (zo 2 (qa ubb hr.rmd (zd 0) (za (zr (zd 1) (zu T.ubj)) zb)) nd) (zc (zo 3 (qa ubb hr.rmd (zd 0) (za (zr (zd 1) (zu T.uby)) zb)) nd) (zh (zn (qi (za (zd 2) (za (zr (zd 1) (zu T.ubm)) (za (zd 3) zb)))))))))))
 have ud2:Cal P w K mg base 5 "lifted_left" zab:=(T.uem.cal sc_lifted_left (fun _ _ _ _ _ _=>ls4 fun _ _ _ _=>rfl) (fun f cdv A outer s H E hr=>by as_aux_lemma=>
   have nd:=sc_lifted_left.nd;exact(zc (zo 4 (zf uas hr.rmd (za (zd 0) (za (zd 1) zb))) nd) (zc (qu (zpq (zf uak hr.rmd (za (zr (zd 4) (zu T.uab)) zb)) (zf uak hr.rmd (za (zr (zd 4) (zu T.uac)) zb))) (zh (zn (qa uaa hr.rmd (zd 0) (za (zr (zd 4) (zu T.uab)) (za (zr (zd 4) (zu T.uae)) (za (qa uaa hr.rmd (zd 0) (za (zr (zd 4) (zu T.uac)) (za (zd 2) (za (zd 3) zb)))) zb)))))) zp) (zc (zo 5 (zf uas hr.rmd (za (zd 0) (za (zr (zd 4) (zu T.uac)) zb))) nd) (zc (zo 6 (qa uaa hr.rmd (zd 0) (za (zr (zd 4) (zu T.uab)) (za (zr (zd 4) (zu T.uae)) (za (zr (zd 5) (zu T.uab)) zb)))) nd) (zc (zo 7 (qa uaa hr.rmd (zd 0) (za (zr (zd 5) (zu T.uac)) (za (zd 2) (za (zd 3) zb)))) nd) (zh (zn (qa uaa hr.rmd (zd 0) (za (zd 6) (za (zr (zd 5) (zu T.uae)) (za (zd 7) zb)))))))))))))
 have uc6:Cal P w K mg base 5 "lifted_right" yl:=(T.udm.cal sc_lifted_right (fun _ _ _ _ _ _=>ls4 fun _ _ _ _=>rfl) (fun f cdv A outer s H E hr=>by as_aux_lemma=>
   have nd:=sc_lifted_right.nd;exact(zc (zo 4 (zf uas hr.rmd (za (zd 0) (za (zd 3) zb))) nd) (zc (qu (zpq (zf uak hr.rmd (za (zr (zd 4) (zu T.uac)) zb)) (zf uak hr.rmd (za (zr (zd 4) (zu T.uab)) zb))) (zh (zn (qa uaa hr.rmd (zd 0) (za (qa uaa hr.rmd (zd 0) (za (zd 1) (za (zd 2) (za (zr (zd 4) (zu T.uab)) zb)))) (za (zr (zd 4) (zu T.uae)) (za (zr (zd 4) (zu T.uac)) zb)))))) zp) (zc (zo 5 (zf uas hr.rmd (za (zd 0) (za (zr (zd 4) (zu T.uab)) zb))) nd) (zc (zo 6 (qa uaa hr.rmd (zd 0) (za (zd 1) (za (zd 2) (za (zr (zd 5) (zu T.uab)) zb)))) nd) (zc (zo 7 (qa uaa hr.rmd (zd 0) (za (zr (zd 5) (zu T.uac)) (za (zr (zd 4) (zu T.uae)) (za (zr (zd 4) (zu T.uac)) zb)))) nd) (zh (zn (qa uaa hr.rmd (zd 0) (za (zd 6) (za (zr (zd 5) (zu T.uae)) (za (zd 7) zb)))))))))))))
 have uaz:Cal P w K mg base 6 "balanced" jy:=(T.uf7.cal sc_balanced (fun _ _ _ _ _ _=>ls4 fun _ _ _ _=>rfl) (fun f cdv A outer s H E hr=>by as_aux_lemma=>
   have nd:=sc_balanced.nd;exact(zc (qu (zay (zf ubf hr.rmd (za (zd 1) (za (zd 3) zb)))) (zh (zn (qa uaa hr.rmd (zd 0) (za (zd 1) (za (zd 2) (za (zd 3) zb)))))) zp) (zc (qu (zfl (zf uak hr.rmd (za (zd 1) zb)) (zf uak hr.rmd (za (zd 3) zb))) (zh (zn (zf ud2 hr.rmd (za (zd 0) (za (zd 1) (za (zd 2) (za (zd 3) zb))))))) zp) (zh (zn (zf uc6 hr.rmd (za (zd 0) (za (zd 1) (za (zd 2) (za (zd 3) zb)))))))))))
 have ua5:∀n:Nat,Cal P w K mg base (7+n) "joined" (kq n):=fun n=>by
   induction n with
   |zero=>exact T.ue0.none0 (ps:=["wood", "left", "thing", "right"]) (fun _ _ _ _ _ _=>ls4 fun _ _ _ _=>rfl)
   | succ n hself=>exact T.ue0.cal sc_joined (fun _ _ _ _ _ _=>ls4 fun _ _ _ _=>rfl) (fun f cdv A outer s H E hr0=>by as_aux_lemma=>
     have nd:=sc_joined.nd;have hr:=hr0.mono (z3d 7 n);exact(zc (qu (zay (zf ubf hr.rmd (za (zd 1) (za (zd 3) zb)))) (zh (zn (qa uaa hr.rmd (zd 0) (za (zd 1) (za (zd 2) (za (zd 3) zb)))))) zp) (zc (qu (zfl (zf uak hr.rmd (za (zd 1) zb)) (zf uak hr.rmd (za (zd 3) zb))) (zc (zo 4 (zf uas hr.rmd (za (zd 0) (za (zd 1) zb))) nd) (zh (zn (zf uaz hr.rmd (za (zd 0) (za (zr (zd 4) (zu T.uab)) (za (zr (zd 4) (zu T.uae)) (za (zf hself hr0 (za (zd 0) (za (zr (zd 4) (zu T.uac)) (za (zd 2) (za (zd 3) zb))))) zb)))))))) zp) (zc (zo 4 (zf uas hr.rmd (za (zd 0) (za (zd 3) zb))) nd) (zh (zn (zf uaz hr.rmd (za (zd 0) (za (zf hself hr0 (za (zd 0) (za (zd 1) (za (zd 2) (za (zr (zd 4) (zu T.uab)) zb))))) (za (zr (zd 4) (zu T.uae)) (za (zr (zd 4) (zu T.uac)) zb)))))))))))
 have ua5:=ua5 40;have uax:∀n:Nat,Cal P w K mg base (48+n) "cut_ahead" (x8 n):=fun n=>by
   induction n with
   |zero=>exact T.uca.none0 (ps:=["wood", "make", "place"]) (fun _ _ _ _ _ _=>ls3 fun _ _ _=>rfl)
   | succ n hself=>exact T.uca.cal sc_cut_ahead (fun _ _ _ _ _ _=>ls3 fun _ _ _=>rfl) (fun f cdv A outer s H E hr0=>by as_aux_lemma=>
     have nd:=sc_cut_ahead.nd;have hr:=hr0.mono (z3d 48 n);exact(zc (qu (zcr hr (zd 2) zl) (zh (zn (qi (za jn (za (zd 1) zb))))) zp) (zc (qu (zcr hr (zd 2) (zf uaf hr.rmd (za (zd 1) zb))) (zh (zn (qi (za (zd 1) (za jn zb))))) zp) (zc (zo 3 (zf uas hr.rmd (za (zd 0) (za (zd 1) zb))) nd) (zc (zo 4 (zf uaf hr.rmd (za (zr (zd 3) (zu T.uab)) zb)) nd) (zc (qu (zxe (zd 2) (zd 4)) (zc (zo 5 (zf hself hr0 (za (zd 0) (za (zr (zd 3) (zu T.uab)) (za (zd 2) zb)))) nd) (zh (zn (qi (za (zr (zd 5) zl) (za (zf ua5 hr.rmd (za (zd 0) (za (zr (zd 5) zl) (za (zr (zd 3) (zu T.uae)) (za (zr (zd 3) (zu T.uac)) zb))))) zb)))))) zp) (zc (zo 5 (zf hself hr0 (za (zd 0) (za (zr (zd 3) (zu T.uac)) (za (yj (yj (zd 2) (zd 4)) zl) zb)))) nd) (zh (zn (qi (za (zf ua5 hr.rmd (za (zd 0) (za (zr (zd 3) (zu T.uab)) (za (zr (zd 3) (zu T.uae)) (za (zr (zd 5) zl) zb))))) (za (zr (zd 5) zl) zb))))))))))))
 have uax:=uax 40;have uim:Cal P w K mg base 89 "cut" ztl:=(T.uii.cal sc_cut (fun _ _ _ _ _ _=>ls3 fun _ _ _=>rfl) (fun f cdv A outer s H E hr=>by as_aux_lemma=>
   have nd:=sc_cut.nd;exact(zc (qq (zf uar hr.rmd (za (zd 2) (za (qf (zf uaf hr.rmd (za (zd 1) zb)) zl) zb)))) (zh (zn (zf uax hr.rmd (za (zd 0) (za (zd 1) (za (zd 2) zb)))))))))
 have uga:=uim.alias T.al_cut_rows;have ufl:Mth P w K mg base 90 "Shelf" "cut" zbj:=T.ufs.mth sc_Shelf_cut (fun _ _ _ _ _ _=>ls2 fun _ _=>rfl) (fun f cdv A outer s H E hr=>by as_aux_lemma=>
   have nd:=sc_Shelf_cut.nd;exact(zc (zo 2 (zf uga hr.rmd (za (jh T.uai (zd 0)) (za (jh T.uad (zd 0)) (za (zd 1) zb)))) nd) (zc (zo 3 (zcd ubv hr.rmd (za (jh T.uai (zd 0)) zb)) nd) (zc (yi T.uad (zd 3) (zr (zd 2) zl)) (zc (qq (qa ual hr.rmd (zd 0) (za (zr (zd 2) zl) (za (qi (za xw (za (zd 1) zb))) zb)))) (zh (zn (zd 3))))))))
 have ua2:∀n:Nat,Cal P w K mg base (2+n) "thing_at" (xq n):=fun n=>by
   induction n with
   |zero=>exact T.uct.none0 (ps:=["make", "turned", "place"]) (fun _ _ _ _ _ _=>ls3 fun _ _ _=>rfl)
   | succ n hself=>exact T.uct.cal sc_thing_at (fun _ _ _ _ _ _=>ls3 fun _ _ _=>rfl) (fun f cdv A outer s H E hr0=>by as_aux_lemma=>
     have nd:=sc_thing_at.nd;have hr:=hr0.mono (z3d 2 n);exact(zc (zo 3 (zf ugw hr.rmd (za (zd 0) (za (zd 1) zb))) nd) (zc (zo 4 (zf uaf hr.rmd (za (zr (zd 3) (zu T.uab)) zb)) nd) (zc (qu (zpp (zd 2) (zd 4)) (zh (zn (zf hself hr0 (za (zr (zd 3) (zu T.uab)) (za (zr (zd 3) (zu T.ubo)) (za (zd 2) zb)))))) zp) (zc (qu (zfl (zd 2) (zd 4)) (zh (zn (zf hself hr0 (za (zr (zd 3) (zu T.uac)) (za (zr (zd 3) (zu T.ubo)) (za (yj (yj (zd 2) (zd 4)) zl) zb)))))) zp) (zh (zn (zr (zd 3) (zu T.uae)))))))))
 have ua2:=ua2 40;have uh8:Cal P w K mg base 43 "at" zyi:=(T.uir.cal sc_at (fun _ _ _ _ _ _=>ls2 fun _ _=>rfl) (fun f cdv A outer s H E hr=>by as_aux_lemma=>
   have nd:=sc_at.nd;exact(zc (qq (zf uar hr.rmd (za (zd 1) (za (zf uaf hr.rmd (za (zd 0) zb)) zb)))) (zh (zn (zf ua2 hr.rmd (za (zd 0) (za yb (za (zd 1) zb)))))))))
 have ub8:=zcj (P:=P) (w:=w) (base:=base) T uaz uas uaf ua5 ua2 40;have ua0:=zam (P:=P) (w:=w) (base:=base) T ua5 ua2 ub8;have uip:Cal P w K mg base 129 "out" ztk:=(T.uiq.cal sc_out (fun _ _ _ _ _ _=>ls3 fun _ _ _=>rfl) (fun f cdv A outer s H E hr=>by as_aux_lemma=>
   have nd:=sc_out.nd;exact(zc (qq (zf uar hr.rmd (za (zd 2) (za (zf uaf hr.rmd (za (zd 1) zb)) zb)))) (zh (zn (zf ub8 hr.rmd (za (zd 0) (za (zd 1) (za (zd 2) zb)))))))))
 have ugc:=uip.alias T.al_out_rows;have ufy:Mth P w K mg base 130 "Shelf" "out" zbi:=T.ufv.mth sc_Shelf_out (fun _ _ _ _ _ _=>ls2 fun _ _=>rfl) (fun f cdv A outer s H E hr=>by as_aux_lemma=>
   have nd:=sc_Shelf_out.nd;exact(zc (zo 2 (zf uh8 hr.rmd (za (jh T.uad (zd 0)) (za (zd 1) zb))) nd) (zc (qq (qa ual hr.rmd (zd 0) (za (zf ugc hr.rmd (za (jh T.uai (zd 0)) (za (jh T.uad (zd 0)) (za (zd 1) zb)))) (za (qi (za xw (za (zd 1) zb))) zb)))) (zh (zn (zd 2))))))
 have udd:∀n:Nat,Cal P w K mg base (5+n) "given" (zfi n):=fun n=>by
   induction n with
   |zero=>exact T.uf4.none0 (ps:=["wood", "make", "place", "thing"]) (fun _ _ _ _ _ _=>ls4 fun _ _ _ _=>rfl)
   | succ n hself=>exact T.uf4.cal sc_given (fun _ _ _ _ _ _=>ls4 fun _ _ _ _=>rfl) (fun f cdv A outer s H E hr0=>by as_aux_lemma=>
     have nd:=sc_given.nd;have hr:=hr0.mono (z3d 5 n);exact(zc (zo 4 (zf uas hr.rmd (za (zd 0) (za (zd 1) zb))) nd) (zc (zo 5 (zf uaf hr.rmd (za (zr (zd 4) (zu T.uab)) zb)) nd) (zc (qu (zpp (zd 2) (zd 5)) (zh (zn (qa uaa hr.rmd (zd 0) (za (zf hself hr0 (za (zd 0) (za (zr (zd 4) (zu T.uab)) (za (zd 2) (za (zd 3) zb))))) (za (zr (zd 4) (zu T.uae)) (za (zr (zd 4) (zu T.uac)) zb)))))) zp) (zc (qu (zfl (zd 2) (zd 5)) (zh (zn (qa uaa hr.rmd (zd 0) (za (zr (zd 4) (zu T.uab)) (za (zr (zd 4) (zu T.uae)) (za (zf hself hr0 (za (zd 0) (za (zr (zd 4) (zu T.uac)) (za (yj (yj (zd 2) (zd 5)) zl) (za (zd 3) zb))))) zb)))))) zp) (zh (zn (qa uaa hr.rmd (zd 0) (za (zr (zd 4) (zu T.uab)) (za (zd 3) (za (zr (zd 4) (zu T.uac)) zb)))))))))))
 have udd:=udd 40;have ugx:Cal P w K mg base 46 "swapped" zdo:=(T.ugk.cal sc_swapped (fun _ _ _ _ _ _=>ls4 fun _ _ _ _=>rfl) (fun f cdv A outer s H E hr=>by as_aux_lemma=>
   have nd:=sc_swapped.nd;exact(zc (qq (zf uar hr.rmd (za (zd 2) (za (zf uaf hr.rmd (za (zd 1) zb)) zb)))) (zh (zn (zf udd hr.rmd (za (zd 0) (za (zd 1) (za (zd 2) (za (zd 3) zb))))))))))
 have ufg:Mth P w K mg base 47 "Shelf" "swap" zav:=T.uep.mth sc_Shelf_swap (fun _ _ _ _ _ _=>ls3 fun _ _ _=>rfl) (fun f cdv A outer s H E hr=>by as_aux_lemma=>
   have nd:=sc_Shelf_swap.nd;exact(zh (qq (qa ual hr.rmd (zd 0) (za (zf ugx hr.rmd (za (jh T.uai (zd 0)) (za (jh T.uad (zd 0)) (za (zd 1) (za (zd 2) zb))))) (za (qi (za xw (za (zd 1) zb))) zb))))))
 have uck:Cal P w K mg base 2 "check_stretch" ky:=(T.ucw.cal sc_check_stretch (fun _ _ _ _ _ _=>ls3 fun _ _ _=>rfl) (fun f cdv A outer s H E hr=>by as_aux_lemma=>
   have nd:=sc_check_stretch.nd;exact(zh (qu (zbw (zm6 zl (zd 1) (zd 2) (zf uaf hr.rmd (za (zd 0) zb)))) (zh za8) zp))))
 have udw:Cal P w K mg base 130 "turned_part" y8:=(T.uee.cal sc_turned_part (fun _ _ _ _ _ _=>ls4 fun _ _ _ _=>rfl) (fun f cdv A outer s H E hr=>by as_aux_lemma=>
   have nd:=sc_turned_part.nd;exact(zc (qq (zf uck hr.rmd (za (zd 1) (za (zd 2) (za (zd 3) zb))))) (zc (zo 4 (zf uax hr.rmd (za (zd 0) (za (zd 1) (za (zd 3) zb)))) nd) (zc (zo 5 (zf uax hr.rmd (za (zd 0) (za (zr (zd 4) zl) (za (zd 2) zb)))) nd) (zc (zo 6 (zf ua0 hr.rmd (za (zd 0) (za (zr (zd 5) zl) (za (qa ubb hr.rmd (zd 0) (za (zr (zd 5) zl) zb)) zb)))) nd) (zh (zn (zf ua0 hr.rmd (za (zd 0) (za (zd 6) (za (zr (zd 4) zl) zb))))))))))))
 have udn:Mth P w K mg base 131 "Shelf" "turned" yn:=T.udk.mth sc_Shelf_turned (fun _ _ _ _ _ _=>ls3 fun _ _ _=>rfl) (fun f cdv A outer s H E hr=>by as_aux_lemma=>
   have nd:=sc_Shelf_turned.nd;exact(zh (qq (qa ual hr.rmd (zd 0) (za (zf udw hr.rmd (za (jh T.uai (zd 0)) (za (jh T.uad (zd 0)) (za (zd 1) (za (zd 2) zb))))) (za (qi (za xw (za (zd 1) (za (zd 2) zb)))) zb))))))
 have uic:Cal P w K mg base 130 "laid" zmx:=(T.uh7.cal sc_laid (fun _ _ _ _ _ _=>ls3 fun _ _ _=>rfl) (fun f cdv A outer s H E hr=>by as_aux_lemma=>
   have nd:=sc_laid.nd;exact(zc (qq (zf ua1 hr.rmd (za (qf (zf uaf hr.rmd (za (zd 1) zb)) (zf uaf hr.rmd (za (zd 2) zb))) zb))) (zh (zn (zf ua0 hr.rmd (za (zd 0) (za (zd 1) (za (zd 2) zb)))))))))
 have ufr:=uic.alias T.al_laid_rows;have ubz:Mth P w K mg base 131 "Shelf" "laid" yg:=T.ue6.mth sc_Shelf_laid (fun _ _ _ _ _ _=>ls2 fun _ _=>rfl) (fun f cdv A outer s H E hr=>by as_aux_lemma=>
   have nd:=sc_Shelf_laid.nd;exact(zc (zo 2 (j6 uap hr.rmd (zd 1)) nd) (zh (qq (qa ual hr.rmd (zd 0) (za (zf ufr hr.rmd (za (jh T.uai (zd 0)) (za (jh T.uad (zd 0)) (za (zd 2) zb)))) (za (qi (za xw (za (zf uaf hr.rmd (za (zd 2) zb)) zb))) zb)))))))
 have ufu:Cal P w K mg base 132 "_law_laid" zad:=(T.ufm.cal sc__law_laid (fun _ _ _ _ _ _=>ls5 fun _ _ _ _ _=>rfl) (fun f cdv A outer s H E hr=>by as_aux_lemma=>
   have nd:=sc__law_laid.nd;exact(zc (zeq 5 (zgx (x:="_law_k") (N':=["_law_fresh"]) (fr:=[4]) (by decide +kernel) rfl rfl rfl rfl rfl) T.ubk (xj (zd 3) zl) (fun _ _ _ _=>(qf (zd 1) (zd 0))) nd) (zc (qu (zui (zjg (zcr hr (xj (zds (zd 3) zl) zl) zl) (zfk (zpp (j7 T.uah (za (zd 2) zb)) zl)))) (zc (qq (qa ubz hr.rmd (zd 1) (za (zd 1) zb))) (zh (zn (qi (za (qf (zd 2) (zd 2)) (za (qi (za xw (za (j7 T.uah (za (zd 2) zb)) zb))) zb)))))) zp) (zc (qq (qa ubz hr.rmd (zd 1) (za (zcd uaq hr.rmd (za (zd 0) (za (zd 5) zb))) zb))) (zh (zn (qi (za (qf (zd 2) (zd 5)) (za (qi (za xw (za (j7 T.uah (za (zd 5) zb)) zb))) zb))))))))))
 have ucj:∀n:Nat,Cal P w K mg base (7+n) "put_in" (zcw n):=fun n=>by
   induction n with
   |zero=>exact T.ue2.none0 (ps:=["wood", "make", "place", "thing"]) (fun _ _ _ _ _ _=>ls4 fun _ _ _ _=>rfl)
   | succ n hself=>exact T.ue2.cal sc_put_in (fun _ _ _ _ _ _=>ls4 fun _ _ _ _=>rfl) (fun f cdv A outer s H E hr0=>by as_aux_lemma=>
     have nd:=sc_put_in.nd;have hr:=hr0.mono (z3d 7 n);exact(zc (qu (zdu (zd 1) jn) (zh (zn (qa uaa hr.rmd (zd 0) (za jn (za (zd 3) (za jn zb)))))) zp) (zc (zo 4 (zf uas hr.rmd (za (zd 0) (za (zd 1) zb))) nd) (zc (zo 5 (zf uaf hr.rmd (za (zr (zd 4) (zu T.uab)) zb)) nd) (zc (qu (zxe (zd 2) (zd 5)) (zh (zn (zf uaz hr.rmd (za (zd 0) (za (zf hself hr0 (za (zd 0) (za (zr (zd 4) (zu T.uab)) (za (zd 2) (za (zd 3) zb))))) (za (zr (zd 4) (zu T.uae)) (za (zr (zd 4) (zu T.uac)) zb))))))) zp) (zh (zn (zf uaz hr.rmd (za (zd 0) (za (zr (zd 4) (zu T.uab)) (za (zr (zd 4) (zu T.uae)) (za (zf hself hr0 (za (zd 0) (za (zr (zd 4) (zu T.uac)) (za (yj (yj (zd 2) (zd 5)) zl) (za (zd 3) zb))))) zb))))))))))))
 have ucj:=ucj 40;have uil:Cal P w K mg base 48 "put" zmw:=(T.uhh.cal sc_put (fun _ _ _ _ _ _=>ls4 fun _ _ _ _=>rfl) (fun f cdv A outer s H E hr=>by as_aux_lemma=>
   have nd:=sc_put.nd;exact(zc (qq (zf uar hr.rmd (za (zd 2) (za (qf (zf uaf hr.rmd (za (zd 1) zb)) zl) zb)))) (zc (qq (zf ua1 hr.rmd (za (qf (zf uaf hr.rmd (za (zd 1) zb)) zl) zb))) (zh (zn (zf ucj hr.rmd (za (zd 0) (za (zd 1) (za (zd 2) (za (zd 3) zb)))))))))))
 have uge:=uil.alias T.al_put_rows;have r_put:RCal P w K mg base 48 "put" r_put:=T.uhh.rcal sc_put (fun _ _ _ _ _ _=>ls4 fun _ _ _ _=>rfl) (fun f cdv A outer s H E hr=>by as_aux_lemma=>
   have nd:=sc_put.nd;exact(y4 (zht (zlp xl hr.rmd (za (zd 2) (za (qf (zf uaf hr.rmd (za (zd 1) zb)) zl) zb))))))
 have ugh:=r_put.alias T.al_put_rows;have ucc:Mth P w K mg base 49 "Shelf" "put" k9:=T.ub9.mth sc_Shelf_put (fun _ _ _ _ _ _=>ls3 fun _ _ _=>rfl) (fun f cdv A outer s H E hr=>by as_aux_lemma=>
   have nd:=sc_Shelf_put.nd;exact(zh (qq (qa ual hr.rmd (zd 0) (za (zf uge hr.rmd (za (jh T.uai (zd 0)) (za (jh T.uad (zd 0)) (za (zd 1) (za (zd 2) zb))))) (za (qi (za xw (za (zd 1) zb))) zb))))))
 have kr:RMth P w K mg base 49 "Shelf" "put" kr:=T.ub9.rmth sc_Shelf_put (fun _ _ _ _ _ _=>ls3 fun _ _ _=>rfl) (fun f cdv A outer s H E hr=>by as_aux_lemma=>
   have nd:=sc_Shelf_put.nd;exact(y4 (zht (zok ual (zd 0) (zlp ugh hr.rmd (za (jh T.uai (zd 0)) (za (jh T.uad (zd 0)) (za (zd 1) (za (zd 2) zb)))))))))
 have uej:Cal P w K mg base 50 "_law_put_in" zac:=(T.uec.cal sc__law_put_in (fun _ _ _ _ _ _=>ls4 fun _ _ _ _=>rfl) (fun f cdv A outer s H E hr=>by as_aux_lemma=>
   have nd:=sc__law_put_in.nd;exact(zc (zo 4 (xj (zd 2) (qf (j7 T.uah (za (zd 1) zb)) zl)) nd) (zc (qq (qa ucc hr.rmd (zd 0) (za (zd 4) (za (zd 3) zb)))) (zh (zn (qi (za (qf (qf (x6 (zd 1) yo (ko (zd 4))) (zax (za (zd 3) zb))) (x6 (zd 1) (ko (zd 4)) yo)) (za (qi (za xw (za (zd 4) zb))) zb)))))))))
 have ua8:Cal P w K mg base 133 "_law_done" jf:=(T.ufk.cal sc__law_done (fun _ _ _ _ _ _=>ls6 fun _ _ _ _ _ _=>rfl) (fun f cdv A outer s H E hr=>by as_aux_lemma=>
   have nd:=sc__law_done.nd;exact(zc (zo 6 (xj (zd 4) zl) nd) (zc (zo 4 (zds (zd 4) zl) nd) (zc (qu (zui (zjg (zcr hr (zd 6) zl) (zfk (zkg hr (zd 2) (zax zb))))) (zc (zo 7 (xj (zd 4) (j7 T.uah (za (zd 2) zb))) nd) (zc (qq (qa ufy hr.rmd (zd 1) (za (zd 7) zb))) (zh (zn (qi (za (qf (x6 (zd 2) yo (ko (zd 7))) (x6 (zd 2) (ko (qf (zd 7) zl)) yo)) (za (qi (za xw (za (zd 7) zb))) zb))))))) zp) (zc (qu (zui (zjg (zcr hr (zd 6) zl) (zfk (zkg hr (zd 2) (zax zb))))) (zc (zo 7 (xj (zd 4) (j7 T.uah (za (zd 2) zb))) nd) (zc (qq (qa ufg hr.rmd (zd 1) (za (zd 7) (za (zd 5) zb)))) (zh (zn (qi (za (qf (qf (x6 (zd 2) yo (ko (zd 7))) (zax (za (zd 5) zb))) (x6 (zd 2) (ko (qf (zd 7) zl)) yo)) (za (qi (za xw (za (zd 7) zb))) zb))))))) zp) (zc (qu (z0a (zd 6) (qi (za zl (za zl zb)))) (zc (zo 8 (xj (zd 4) (qf (j7 T.uah (za (zd 2) zb)) zl)) nd) (zc (zo 9 (qf (zd 8) (xj (zds (zd 4) zl) (yj (qf (j7 T.uah (za (zd 2) zb)) zl) (zd 8)))) nd) (zc (qq (qa udn hr.rmd (zd 1) (za (zd 8) (za (zd 9) zb)))) (zh (zn (qi (za (qf (qf (x6 (zd 2) yo (ko (zd 8))) (zkf T.ubi T.ugf (x6 (zd 2) (ko (zd 8)) (ko (zd 9))))) (x6 (zd 2) (ko (zd 9)) yo)) (za (qi (za xw (za (zd 8) (za (zd 9) zb)))) zb)))))))) zp) (zc (qu (zcr hr (zd 6) zl) (zh (zn (zf ufu hr.rmd (za (zd 0) (za (zd 1) (za (zd 2) (za (zd 4) (za (zd 5) zb)))))))) zp) (zc (qu (zcr hr (zd 6) zl) (zc (zo 7 (yj (j7 T.uah (za (zd 2) zb)) (zds (xj (zd 4) (qf (j7 T.uah (za (zd 2) zb)) zl)) zl)) nd) (zc (qq (qa ufl hr.rmd (zd 1) (za (zd 7) zb))) (zh (zn (qi (za (x6 (zd 2) yo (ko (zd 7))) (za (qi (za xw (za (zd 7) zb))) zb))))))) zp) (zc (qu (zui (zjg (zcr hr (zd 6) zl) (zfk (zcr hr (xj (zd 4) zl) zl)))) (zc (zqs [10,11] (za6 10 nd (za6 11 nd Names.nil)) (zr (zd 3) (xj (zds (zd 4) zl) (j7 T.uah (za (zd 3) zb))))) (zc (qq (qa uff hr.rmd (zd 1) (za (zd 10) zb))) (zh (zn (qi (za (zbv T.ubi (za (zd 11) zb)) (za (qi (za xw (za (j7 T.uah (za (zd 11) zb)) zb))) zb))))))) zp) (zh (zn (zf uej hr.rmd (za (zd 1) (za (zd 2) (za (zd 4) (za (zd 5) zb))))))))))))))))).frz2
 have ua9:Mth P w K mg base 2 "Strict" "new_deeds" jm:=T.ub1.mth sc_Strict_new_deeds (fun _ _ _ _ _ _=>ls1 fun _=>rfl) (fun f cdv A outer s H E hr=>by as_aux_lemma=>
   have nd:=sc_Strict_new_deeds.nd;exact(zh (zn (x6 (j6 ubt hr.rmd (jh T.ubn (zd 0))) (ko (jh T.ubw (zd 0))) yo))))
 have ube:Mth P w K mg base 3 "Strict" "row" xg:=T.ub3.mth sc_Strict_row (fun _ _ _ _ _ _=>ls1 fun _=>rfl) (fun f cdv A outer s H E hr=>by as_aux_lemma=>
   have nd:=sc_Strict_row.nd;exact(zc (zo 1 (j6 ua9 hr.rmd (zd 0)) nd) (zc (qu (zfl (j7 T.uah (za (zd 1) zb)) zl) (zh za8) zp) (zh (zn (jh T.ubl (zd 0)))))))
 have jt:RMth P w K mg base 3 "Strict" "row" jt:=T.ub3.rmth sc_Strict_row (fun _ _ _ _ _ _=>ls1 fun _=>rfl) (fun f cdv A outer s H E hr=>by as_aux_lemma=>
   have nd:=sc_Strict_row.nd;exact(ziw (zo 1 (j6 ua9 hr.rmd (zd 0)) nd) (zll (zfl (j7 T.uah (za (zd 1) zb)) zl) (y4 (zlm (zkb T) hr.rmd (za (zr (zd 1) zl) zb))) ze4)))
 have ueg:Mth P w K mg base 4 "Strict" "more" xz:=T.ubr.mth sc_Strict_more (fun _ _ _ _ _ _=>ls1 fun _=>rfl) (fun f cdv A outer s H E hr=>by as_aux_lemma=>
   have nd:=sc_Strict_more.nd;exact(zc (zo 1 (j6 ube hr.rmd (zd 0)) nd) (zh (zn (zxb (jh T.uam (zd 0)) (zf uaf hr.rmd (za (zd 1) zb)))))))
 have xm:RMth P w K mg base 4 "Strict" "more" xm:=T.ubr.rmth sc_Strict_more (fun _ _ _ _ _ _=>ls1 fun _=>rfl) (fun f cdv A outer s H E hr=>by as_aux_lemma=>
   have nd:=sc_Strict_more.nd;exact(y4 (zix (zcv jt hr.rmd (zd 0)))))
 have ueb:Mth P w K mg base 44 "Strict" "step" xn:=T.ubq.mth sc_Strict_step (fun _ _ _ _ _ _=>ls1 fun _=>rfl) (fun f cdv A outer s H E hr=>by as_aux_lemma=>
   have nd:=sc_Strict_step.nd;exact(zc (zo 1 (j6 ube hr.rmd (zd 0)) nd) (zc (qu (zpq (jh T.uam (zd 0)) (zf uaf hr.rmd (za (zd 1) zb))) (zh za8) zp) (zc (zo 2 (zf uh8 hr.rmd (za (zd 1) (za (jh T.uam (zd 0)) zb))) nd) (zc (yi T.uam (zd 0) (qf (jh T.uam (zd 0)) zl)) (zh (zn (zd 2))))))))
 have ju:RMth P w K mg base 44 "Strict" "step" ju:=T.ubq.rmth sc_Strict_step (fun _ _ _ _ _ _=>ls1 fun _=>rfl) (fun f cdv A outer s H E hr=>by as_aux_lemma=>
   have nd:=sc_Strict_step.nd;exact(zve (y4 (zix (zcv jt hr.rmd (zd 0)))) (ziw (zo 1 (j6 ube hr.rmd (zd 0)) nd) (zll (zpq (jh T.uam (zd 0)) (zf uaf hr.rmd (za (zd 1) zb))) (y4 (ziy T.ug2 (za xw zb))) ze4))))
 have uao:Cal P w K mg base 45 "_law_heard" qh:=(T.ufa.cal sc__law_heard (fun _ _ _ _ _ _=>ls2 fun _ _=>rfl) (fun f cdv A outer s H E hr=>by as_aux_lemma=>
   have nd:=sc__law_heard.nd;exact(zc (zo 2 jn nd) (zc (zmy (fun _=>(zh (qu (zay (zd 1)) (zh (zo 2 (j6 ueb hr.rmd (zd 0)) nd)) (zh (zo 2 (j6 ueg hr.rmd (zd 0)) nd))))) (fun _=>(zcu (zy1 (zay (zd 1)) (zcu (zix (zcv ju hr.rmd (zd 0)))) (zcu (zix (zcv xm hr.rmd (zd 0))))))) (zw0 3 (fun _ _=>(zc (zo 4 (zet T.up T.uaj (za (zd 3) (za (qi (za (ya T.ucd) (za (ya T.uhg) (za (ya T.ufd) (za (ya T.ucr) (za (ya T.udp) (za (ya T.uf1) (za (ya T.uf0) (za (ya T.udr) (za (ya T.uf2) (za (ya T.uds) zb))))))))))) zb))) nd) (zh (zo 2 (zax (za (zm3 T.xf_Changed_deed (zd 3)) (za (zqx T.uaj (za (zm3 T.xf_Changed_deed (zd 3)) (za (zji "tuple" T.uhu F.boot_tuple) zb))) (za (zm4 (zet T.up T.uaj (za (zd 3) (za (ya T.ub0) zb))) (zm2 (zet T.up T.uaj (za (zd 3) (za (zji "ValueError" T.ub2 F.boot_ValueError) zb))))) (za (zd 4) zb))))) nd)))) nd (zb4 T.ct_Changed) (zb4 T.no_Changed) (zw0 3 (fun _ _=>(zc (zo 4 (zet T.up T.uaj (za (zd 3) (za (qi (za (ya T.ugm) (za (ya T.ucd) (za (ya T.ufd) (za (ya T.ucr) (za (ya T.udp) (za (ya T.uf1) (za (ya T.uf0) (za (ya T.udr) (za (ya T.uf2) (za (ya T.uds) zb))))))))))) zb))) nd) (zh (zo 2 (zax (za xw (za (zm4 (zet T.up T.uaj (za (zd 3) (za (ya T.ub0) zb))) (zm2 (zet T.up T.uaj (za (zd 3) (za (zji "ValueError" T.ub2 F.boot_ValueError) zb))))) (za (zd 4) zb)))) nd)))) nd (zb4 T.ct_NoMore) (zb4 T.no_NoMore) zwz)) (zmu (zb4 T.ct_Changed) (zmu (zb4 T.ct_NoMore) zqq))) (zh (zn (zd 2))))))).frz
 have ua6:Cal P w K mg base 50 "_law_refused" kd:=(T.udi.cal sc__law_refused (fun _ _ _ _ _ _=>ls2 fun _ _=>rfl) (fun f cdv A outer s H E hr=>by as_aux_lemma=>
   have nd:=sc__law_refused.nd;exact(zc (zo 2 yb nd) (zc (zmy (fun _=>(zh (qq (qa ucc hr.rmd (zd 0) (za (zd 1) (za zl zb)))))) (fun _=>(zcu (zht (zsh kr hr.rmd (zd 0) (za (zd 1) (za zl zb)))))) (ztg (fun _ _=>(zh (zo 2 yb nd))) (zb4 T.ct_NoPlace) (zb4 T.no_NoPlace) zwz) (zmu (zb4 T.ct_NoPlace) zqq)) (zh (zn (zd 2)))))))
 have uay:Cal P w K mg base 46 "_law_walked" xy:=(T.ued.cal sc__law_walked (fun _ _ _ _ _ _=>ls3 fun _ _ _=>rfl) (fun f cdv A outer s H E hr=>by as_aux_lemma=>
   have nd:=sc__law_walked.nd;exact(zc (zh0 3 nd T.ubk (zd 2) (zc (zo 4 (zxb (zd 3) (j7 T.uah (za (zd 1) zb))) nd) (zc (zo 5 (zf uao hr.rmd (za (zd 0) (za yb zb))) nd) (zc (qu (zui (zw3 (zbw (zay (zqx T.uaj (za (zd 5) (za (zji "bool" T.uh9 F.boot_bool) zb))))) (zqr (zkg hr (zd 5) (zd 4))))) (zh (zn yb)) zp) (zc (zo 6 (zax (za xw (za yb (za yb zb)))) nd) (zc (qu (zay (zd 4)) (zh (zo 6 (zr (zd 1) (zd 3)) nd)) zp) (zh (qu (zkg hr (zf uao hr.rmd (za (zd 0) (za yb zb))) (zd 6)) (zh (zn yb)) zp))))))) z5b) (zh (zn yb)))))
 exact⟨uaq,uap,ua4,uan,uaw,uag,ua8,uao,ua6,uay⟩
end Pg
open PySem PySem.W L2 F PySem.Spec PyProof.Rows
namespace PySem.W.Fast
def tw7167214121952525150:=()
def tw5399466961635139555:=()
def tw4911979547114425199:=()
def tw16998383550239307283:=()
def tw12447212132198884481:=()
def tw3881510710369722472:=()
def tw15400106902849288604:=()
def tw15358777270476564068:=()
def tw8179454272767173354:=()
def tw4371386241967786136:=()
def tw9089840469687226334:=()
def tw9273009171060659800:=()
def tw14503814300425950998:=()
def tw6079601052059289996:=()
def tw7054352394941226693:=()
def tw1634634266897445399:=()
def tw16267364356457687593:=()
def tw3346451703514603193:=()
def tw8338222971495784775:=()
def tw17556762860482059433:=()
def tw5628833222139146051:=()
def tw14727958640512398449:=()
def tw8052978087911521577:=()
def tw115911903169339851:=()
def tw4833859214525364186:=()
def tw10425493001038081405:=()
def tw13216672098242994047:=()
def tw12690063514439119789:=()
def tw8347355373704990144:=()
def tw11797739091756710746:=()
def tw3273170084783601374:=()
def tw9895935812072160732:=()
def tw4670533233775423748:=()
def tw8462132242456564169:=()
def tw1964291838125639945:=()
def tw11610640047214439066:=()
def tw4805542649201788558:=()
def tw11103873457258430109:=()
def tw5489700902363710480:=()
def tw10800861401699191130:=()
def tw2774743015399468511:=()
def tw10067422891769177748:=()
def tw14529213310469947385:=()
def tw6983734584819770312:=()
def tw5851902082533323206:=()
def tw7975702290389082527:=()
def tw10263209769380004574:=()
def tw2681536285563346618:=()
def tw6964722930334977524:=()
def tw11533942696882716142:=()
def tw12614266391641470348:=()
def tw3531482255450815490:=()
def tw689443312295190903:=()
def tw8995199756201305808:=()
def tw5364457519701943530:=()
def tw13728342181752783027:=()
def tw14393300886358151861:=()
def tw6332081536663968693:=()
def tw6116343596153294691:=()
def tw16773008172009028707:=()
def tw12131177713392456472:=()
def tw2914803488233789961:=()
def tw6229360230195758479:=()
def tw17192943751800132174:=()
def tw228859254001556104:=()
def tw12512540178956885740:=()
def tw14655218033447635867:=()
def tw1745169298660709224:=()
def tw8280574763408631675:=()
def tw766290803327602104:=()
def tw16332232897318333532:=()
def tw4143697704874300903:=()
def tw17018471120688609658:=()
def tw9867228564221684591:=()
def tw15642549436164064989:=()
def tw17849641494820963902:=()
def tw2877172777807730487:=()
def tw8127570145087335851:=()
def tw1681909326065267100:=()
def tw7414311275592140782:=()
def tw16178029848375572136:=()
def tw8368230718055668087:=()
def tw10487467300959721684:=()
def tw3356695229961459315:=()
def tw2995271062005191045:=()
def tw8734085632060555467:=()
def tw7440969782287932536:=()
def tw5867731727486993802:=()
def tw11907411259764533937:=()
def tw16848142507375268189:=()
def tw7102432643650194501:=()
def tw1402728893208827962:=()
def tw16775171158142870416:=()
def tw1227118952642462422:=()
def tw3748960580678554792:=()
def tw489249645623508971:=()
def tw5526525764655285493:=()
def tw6228445763004924255:=()
def tw14904219714330475208:=()
def tw9393872860154752001:=()
def tw5747333991794323782:=()
def tw17667914830876040684:=()
def tw15394322517883057298:=()
def tw6922052450087811725:=()
def tw13992779237510012739:=()
def tw11945059661327600216:=()
def tw180320898402462723:=()
def tw48559228392567202:=()
def tw14842196633421760506:=()
def tw16313575050767489910:=()
def tw1193308470052440931:=()
def tw17191353456839125642:=()
def tw4924228143044924077:=()
def tw95864041475636652:=()
def tw1200192985498839444:=()
def tw3505076747351951398:=()
def tw12083983828260876994:=()
def tw8330468930783058289:=()
def tw10220241646995749082:=()
def tw4076058216655840518:=()
def tw43900213668712055:=()
def tw4284118134553208211:=()
def tw18298641603646400796:=()
def tw11510852144896360827:=()
def tw5552104220526723635:=()
def tw14332421659279196886:=()
def tw12334971017986483378:=()
def tw594201474758580149:=()
def tw17097754935377769715:=()
def tw12163566560826297606:=()
def tw6122302277925144237:=()
def tw11436002103838641471:=()
def tw3940954271572353869:=()
def tw17383911725878864990:=()
def tw10540451151462541914:=()
def tw16083014083826188552:=()
def tw7390138174657836369:=()
def tw6613487451953941028:=()
def tw5428053139548462225:=()
def tw5656737397329947569:=()
def tw8310249997975637539:=()
def tw10145558509479959030:=()
def tw6259875382213595802:=()
def tw15755941087801848000:=()
def tw12443132602967939311:=()
def tw5967441283124214535:=()
def tw9468732007200665596:=()
def tw8950145193332069385:=()
def tw675037595569206015:=()
def tw16370242230051441904:=()
def tw8903277332031192643:=()
def tw1162906088314236575:=()
def tw6686769252640073502:=()
def tw1750504588147279439:=()
def tw4415761069584352117:=()
def tw1633349884634004067:=()
def tw11328180710147079429:=()
def tw8340752816597567492:=()
def tw5453190184699565884:=()
def tw4759892245337881668:=()
def tw13843641584931281274:=()
def tw4530963751645812219:=()
def tw1327921784013959318:=()
def tw9068284407723955093:=()
def tw10600588375374378186:=()
def tw4551953228123790464:=()
def tw5854826694220317268:=()
def tw2373715322478407452:=()
def tw10081404969186876833:=()
def tw9554789303134741111:=()
def tw2104375979728362994:=()
def tw4344302851940107241:=()
def tw15403563262356523115:=()
def tw7372918210966717362:=()
def tw7967405757380110393:=()
def tw15889581795105960754:=()
def tw3004708100876085385:=()
def tw15441285950655360261:=()
def tw2783598794767559014:=()
def tw2122169655444402389:=()
def tw53480505695787104:=()
def tw133942017673727293:=()
def tw10711382523170061866:=()
def tw17949048303940233941:=()
def tw13147621537297032020:=()
def tw18432142675661622421:=()
def tw10036333799510208346:=()
def tw17488294542929958405:=()
def tw6099791883512219590:=()
def tw12258356254886475753:=()
def tw17192128276078462766:=()
def tw7665914245612827417:=()
def tw17476087803567315082:=()
def tw16449888769190018244:=()
def tw9858207424248138718:=()
def tw6839131456808619179:=()
def tw7032739828497461872:=()
def tw2164518662250153274:=()
def tw17815889459609290720:=()
def tw11432528719724856462:=()
def tw13448738565564341919:=()
def tw7603440454993311422:=()
def tw14381683298326451360:=()
def tw4879947054339396906:=()
def tw17611858824996472554:=()
def tw16337809704116393419:=()
def tw2573578757561516794:=()
def tw17627691236449613055:=()
def tw6662024952936777168:=()
def tw4660987071300565592:=()
def tw8847903991453600110:=()
def tw2815388456856585144:=()
def tw11559714514885219341:=()
def tw17456412392394755327:=()
def tw10513368257844021789:=()
def tw10153197581128411342:=()
def tw9788218997863340311:=()
def tw3479232051475798764:=()
def tw1262216456056644090:=()
def tw1230760438974284239:=()
def tw12180581413731802467:=()
def tw3874756884112520179:=()
def tw10690683374711371842:=()
def tw11625478753757476338:=()
def tw12931942948861746020:=()
def tw6755860005174015958:=()
def tw14994193398880882811:=()
def tw16797887405974317393:=()
def tw15330017907533390262:=()
def tw3185664303410289129:=()
def tw7037337049113804425:=()
def tw8305086586335714075:=()
def tw14796268709064183873:=()
def tw5931124877328345975:=()
def tw3612721496512095191:=()
def tw13002857628531838556:=()
def tw7100964410947715389:=()
def tw1859112232328203813:=()
def tw11842908237502860698:=()
def tw12219360575888651241:=()
def tw7978938812619756195:=()
def tw1461038466460177069:=()
def tw13242994323296079653:=()
def tw15395249287260347331:=()
def tw13798856010222773261:=()
def tw3468395161862964029:=()
def tw4194918380250737251:=()
def tw14847905659896420067:=()
def tw8294040172119079881:=()
def tw12988853321672444578:=()
def tw14724544177217166333:=()
def tw7522002308706228992:=()
def tw16191808060389065536:=()
def tw7588254366638602060:=()
def tw5462866352818770540:=()
def tw2166656762710990906:=()
def tw6134035568295842350:=()
def tw8847204598672420710:=()
def tw6044668980209367517:=()
def tw10986838369062674777:=()
def tw9534920945574640145:=()
def tw11958222176271834482:=()
def tw2107842082584335653:=()
def tw10308379098365907614:=()
def tw11393518534027274239:=()
def tw3452033579070550086:=()
def tw14055152547215669530:=()
def tw11974991209427090014:=()
def tw33160308192680879:=()
def tw16610121465539233588:=()
def tw830960480274261352:=()
def tw16460964036506598768:=()
def tw14613632251683158477:=()
def tw14454572510921736790:=()
def tw2010448727446691060:=()
def tw17416062227922848075:=()
def tw17303954866081457201:=()
def tw8413097946995037712:=()
def tw11053614281938161399:=()
def tw5354721845901318879:=()
def tw15592375988007886830:=()
def tw4266201559007486058:=()
def tw16957893676180955564:=()
def tw13000317064810520895:=()
def tw992721458075687278:=()
def tw10047074045561721037:=()
def tw4114854320111288893:=()
def tw10529960278103199544:=()
def tw14696207858481567748:=()
def tw17812050150695988823:=()
def tw2722258257543734814:=()
def tw16957775085154928683:=()
def tw16098482988308722173:=()
def tw11123526068267506525:=()
def tw9259767473024110931:=()
def tw8162524389617959331:=()
def tw522025875221188060:=()
def tw13189978303717855060:=()
def tw17564807196702142421:=()
def tw7599024047460449279:=()
def tw12934726304744537052:=()
def tw4662091264691931319:=()
def tw5031505506884017549:=()
def tw16098282434962423281:=()
def tw271228319067334544:=()
def tw18044263486387331042:=()
def tw12847783978964877299:=()
def tw18401210672921830471:=()
def tw15144450158407983313:=()
def tw10578142708566978394:=()
def tw18214761246701881382:=()
def tw1278304613836655257:=()
def tw8550113291908390779:=()
def tw17580710970977629579:=()
def tw3588373403868672777:=()
def tw15988920505295913907:=()
def tw5049116643671733736:=()
def tw16718168485866196722:=()
def tw4647723961585778666:=()
def tw18107480231730763923:=()
def tw12150325089298906722:=()
def tw11320105862654108986:=()
def tw733149726419396534:=()
def tw8041495886755795162:=()
def tw10745503905246672731:=()
def tw1236639498962184660:=()
def tw11169373461903434749:=()
def tw2225475227426856234:=()
def tw9732882560508428752:=()
def tw4824944221133553973:=()
def tw8780221718966605391:=()
def tw2387765136241323027:=()
def tw13624628182158351285:=()
def tw10823675919830530957:=()
def tw13324556011320292476:=()
def tw10082247697235578671:=()
def tw2283294420626736360:=()
def tw2322324643988158539:=()
def tw12440358028845610100:=()
def tw12829646682173628300:=()
def tw7376007455579188186:=()
def tw13122047454653774386:=()
def tw11560750771648878984:=()
def tw13940437101502433459:=()
def tw16709554767288454869:=()
def tw14477993653427001576:=()
def tw7980564768373498508:=()
def tw16042209468387372669:=()
def tw16957597319694253229:=()
def tw3656168180079388836:=()
def tw5867524994122813192:=()
def tw11153438825035604209:=()
def tw12229084237978808232:=()
def tw10300874563360039682:=()
def tw986834565369810787:=()
def tw3009078348028389465:=()
def tw2658184766499702913:=()
def tw8352473919802169185:=()
def tw17222671140955503965:=()
def tw12274507815286942989:=()
def tw11114623276631822387:=()
def tw11972233663865355417:=()
def tw5301927008416552354:=()
def tw16953397618344761686:=()
def tw11716445353536400333:=()
def tw4397189418273358812:=()
def tw12743421449585688312:=()
def tw14409786209487019789:=()
def tw5221961299244475863:=()
def tw15234138210701532243:=()
def tw13291660708635229178:=()
def tw3954100614578422566:=()
def tw8467313632730004892:=()
def tw12339623262309711085:=()
def tw8320854995573503213:=()
def tw9298661407381556302:=()
def tw3835474146438035922:=()
def tw18123921387763076627:=()
def tw4821172357669450771:=()
def tw1037424228119161862:=()
def tw11822855738401625112:=()
def tw435346742394308605:=()
def tw6996679198153511205:=()
def tw16796944098259358789:=()
def tw9969156306104854803:=()
def tw11683786134577838982:=()
def tw14223734313804779706:=()
def tw10916889318061703570:=()
def tw5436924297080449212:=()
def tw1565702525991072571:=()
def tw16532890722149334322:=()
def tw7470923049302033287:=()
def tw18272206509781227295:=()
def tw1387833006073373800:=()
def tw15294250752823678971:=()
def tw4471573649478532323:=()
def tw1731332116091422745:=()
def tw5806061654207984178:=()
def tw1143332803931214654:=()
def tw1379552476514744400:=()
def tw3945187642680933904:=()
def tw8671492441772876204:=()
def tw12461507459131548634:=()
def tw4886356344575634798:=()
def tw13259046492035250634:=()
def tw11017843193974114319:=()
def tw5670658054107507636:=()
def tw12409475937449348852:=()
def tw2838258384988757211:=()
def tw7583315329556466210:=()
def tw9196594261305874201:=()
def tw7234394241870086909:=()
def tw13011814923480010018:=()
def tw1089168784262848734:=()
def tw4878008738517035225:=()
def tw16072294160434204587:=()
def tw13299557858112523385:=()
def tw17360230760881515687:=()
def tw12395876771643395343:=()
def tw5640542484710507246:=()
def tw1653051937671018044:=()
def tw8708066878914991501:=()
def tw18194079012071473987:=()
def tw9874514619510752918:=()
def tw13342921152777505404:=()
def tw13522433989347240373:=()
def tw3597495055677211841:=()
def tw16120636878376296586:=()
def tw1508043905032634659:=()
def tw17862545409618882617:=()
def tw8688578882733481559:=()
end PySem.W.Fast
set_option maxRecDepth 100000 in
set_option maxHeartbeats 0 in
theorem PySem.Challenge.cw_ownshelf_k43_strict_walkers_holds : PySem.Challenge.rw_ownshelf_k43_strict_walkers.Holds := by
 w_on;o_law;k_head;(case hw=>w_witness2)
 k_fill
 refine F.law_walk (l:=PySem.Challenge.rw_ownshelf_k43_strict_walkers) (k:=134) (g:=Pg.g_law) (x:="_law_script") rfl rfl ⟨rfl,by decide,by decide,rfl⟩ (fun w h Y=>PySem.W.kIn_of Y) Pg.law_ok ?F
 case F=>
   intro w mg fa h KX G hmg;have ud1:mg "ValueError"=none:=by refine' z2u KX G ?a_7;k_is
   have uh5:mg "abs"=none:=by refine' z2u KX G ?a_8;k_is
   have uhs:mg "bool"=none:=by refine' z2u KX G ?a_9;k_is
   have uif:mg "int"=none:=by refine' z2u KX G ?a_10;k_is
   have ud5:mg "isinstance"=none:=by refine' z2u KX G ?a_11;k_is
   have uhw:mg "len"=none:=by refine' z2u KX G ?a_12;k_is
   have uhp:mg "list"=none:=by refine' z2u KX G ?a_13;k_is
   have uhz:mg "max"=none:=by refine' z2u KX G ?a_14;k_is
   have uh4:mg "min"=none:=by refine' z2u KX G ?a_15;k_is
   have ug5:mg "range"=none:=by refine' z2u KX G ?a_16;k_is
   have uft:mg "reversed"=none:=by refine' z2u KX G ?a_17;k_is
   have ug0:mg "tuple"=none:=by refine' z2u KX G ?a_18;k_is
   have uhd:∃t,mg "ABOUT"=some (.int 1 t):=by refine' F.has_int KX G ?a_19;(case a_19=>k_is)
   have ug9:∃t,mg "AHEAD"=some (.int 0 t):=by refine' F.has_int KX G ?a_20;(case a_20=>k_is)
   have uht:∃t,mg "BACK"=some (.int 8 t):=by refine' F.has_int KX G ?a_21;(case a_21=>k_is)
   have ugv:∃t,mg "BEHIND"=some (.int 2 t):=by refine' F.has_int KX G ?a_22;(case a_22=>k_is)
   have ugo:∃t,mg "HEIGHT"=some (.int 6 t):=by refine' F.has_int KX G ?a_23;(case a_23=>k_is)
   have uhm:∃t,mg "LEFT"=some (.int 2 t):=by refine' F.has_int KX G ?a_24;(case a_24=>k_is)
   have ugt:∃t,mg "MIDDLE"=some (.int 1 t):=by refine' F.has_int KX G ?a_25;(case a_25=>k_is)
   have udb:∃t,mg "MOST_THINGS"=some (.int 2000 t):=by refine' F.has_int KX G ?a_26;(case a_26=>k_is)
   have uhe:∃t,mg "RIGHT"=some (.int 4 t):=by refine' F.has_int KX G ?a_27;(case a_27=>k_is)
   have uhl:∃t,mg "SIZE"=some (.int 5 t):=by refine' F.has_int KX G ?a_28;(case a_28=>k_is)
   have uhc:∃t,mg "THING"=some (.int 3 t):=by refine' F.has_int KX G ?a_29;(case a_29=>k_is)
   have ug1:∃t,mg "TOTAL"=some (.int 7 t):=by refine' F.has_int KX G ?a_30;(case a_30=>k_is)
   have ugi:∃t,mg "TURNED"=some (.int 3 t):=by refine' F.has_int KX G ?a_31;(case a_31=>k_is)
   have ugb:∃f,mg "Changed"=some (.ref f):=by refine' F.has_val KX G ?a_32;(case a_32=>k_is)
   have ufj:∃f,mg "NoBalance"=some (.ref f):=by refine' F.has_val KX G ?a_33;(case a_33=>k_is)
   have ugy:∃f,mg "NoMore"=some (.ref f):=by refine' F.has_val KX G ?a_34;(case a_34=>k_is)
   have ugn:∃f,mg "NoName"=some (.ref f):=by refine' F.has_val KX G ?a_35;(case a_35=>k_is)
   have ufp:∃f,mg "NoNumber"=some (.ref f):=by refine' F.has_val KX G ?a_36;(case a_36=>k_is)
   have uf5:∃f,mg "NoPlace"=some (.ref f):=by refine' F.has_val KX G ?a_37;(case a_37=>k_is)
   have uhf:∃f,mg "NoRow"=some (.ref f):=by refine' F.has_val KX G ?a_38;(case a_38=>k_is)
   have ug4:∃f,mg "NoSum"=some (.ref f):=by refine' F.has_val KX G ?a_39;(case a_39=>k_is)
   have uf8:∃f,mg "NoThing"=some (.ref f):=by refine' F.has_val KX G ?a_40;(case a_40=>k_is)
   have uha:∃f,mg "NoWay"=some (.ref f):=by refine' F.has_val KX G ?a_41;(case a_41=>k_is)
   have udz:∃f,mg "ShelfError"=some (.ref f):=by refine' F.has_val KX G ?a_42;(case a_42=>k_is)
   have ugd:∃f,mg "TooMany"=some (.ref f):=by refine' F.has_val KX G ?a_43;(case a_43=>k_is)
   have hov_Walker:∃f,mg "Walker"=some (.ref f):=by refine' F.has_val KX G ?a_44;(case a_44=>k_is)
   have ho_Strict_Walker:F.IsOwn (L2.KOf KX) mg "Strict" "Walker" true:=by refine' F.has_own KX G ?a_45 ?b_45 ?h1_45 ?h2_45 ?h3_45 ?h4_45 ?h5_45 ?h6_45 ?q_45;(case a_45=>k_is);(case b_45=>k_is);(case h1_45=>k_is);(case h2_45=>k_is);(case h3_45=>k_is);(case h4_45=>k_is);(case h5_45=>k_is);(case h6_45=>k_is);(case q_45=>kit_is)
   have ugq:F.ExcCls (L2.KOf KX) mg "NoMore":=by refine' F.has_exc KX G ?a_46 ?q_46;(case a_46=>k_is);(case q_46=>k_exc)
   have ugg:F.ExcCls (L2.KOf KX) mg "NoPlace":=by refine' F.has_exc KX G ?a_47 ?q_47;(case a_47=>k_is);(case q_47=>k_exc)
   have he_Changed:F.ExcI (L2.KOf KX) mg "Changed":=by refine' F.has_ei KX G ?a_48 ?h1_48 ?h2_48 ?h3_48 ?h4_48 ?h5_48 ?h6_48 ?h7_48 ?h8_48 ?h9_48;(case a_48=>k_is);(case h1_48=>k_is);(case h2_48=>k_is);(case h3_48=>k_is);(case h4_48=>k_is);(case h5_48=>k_is);(case h6_48=>k_is);(case h7_48=>k_is);(case h8_48=>k_is);(case h9_48=>kit_is)
   have hc_Changed:F.Cat (L2.KOf KX) mg "Changed" "ShelfError":=by refine' F.has_cat KX G ?a_49 ?b_49 ?h1_49 ?h2_49 ?h3_49 ?h4_49;(case a_49=>k_is);(case b_49=>k_is);(case h1_49=>k_is);(case h2_49=>k_is);(case h3_49=>k_is);(case h4_49=>k_is)
   have hq_Changed_Changed:F.IsF (L2.KOf KX) mg "Changed" "Changed" true:=by refine' F.has_is KX G ?a_50 ?b_50 ?q_50;(case a_50=>k_is);(case b_50=>k_is);(case q_50=>kit_is)
   have hq_Changed_NoBalance:F.IsF (L2.KOf KX) mg "Changed" "NoBalance" false:=by refine' F.has_is KX G ?a_51 ?b_51 ?q_51;(case a_51=>k_is);(case b_51=>k_is);(case q_51=>kit_is)
   have hq_Changed_NoMore:F.IsF (L2.KOf KX) mg "Changed" "NoMore" false:=by refine' F.has_is KX G ?a_52 ?b_52 ?q_52;(case a_52=>k_is);(case b_52=>k_is);(case q_52=>kit_is)
   have hq_Changed_NoName:F.IsF (L2.KOf KX) mg "Changed" "NoName" false:=by refine' F.has_is KX G ?a_53 ?b_53 ?q_53;(case a_53=>k_is);(case b_53=>k_is);(case q_53=>kit_is)
   have hq_Changed_NoNumber:F.IsF (L2.KOf KX) mg "Changed" "NoNumber" false:=by refine' F.has_is KX G ?a_54 ?b_54 ?q_54;(case a_54=>k_is);(case b_54=>k_is);(case q_54=>kit_is)
   have hq_Changed_NoPlace:F.IsF (L2.KOf KX) mg "Changed" "NoPlace" false:=by refine' F.has_is KX G ?a_55 ?b_55 ?q_55;(case a_55=>k_is);(case b_55=>k_is);(case q_55=>kit_is)
   have hq_Changed_NoRow:F.IsF (L2.KOf KX) mg "Changed" "NoRow" false:=by refine' F.has_is KX G ?a_56 ?b_56 ?q_56;(case a_56=>k_is);(case b_56=>k_is);(case q_56=>kit_is)
   have hq_Changed_NoSum:F.IsF (L2.KOf KX) mg "Changed" "NoSum" false:=by refine' F.has_is KX G ?a_57 ?b_57 ?q_57;(case a_57=>k_is);(case b_57=>k_is);(case q_57=>kit_is)
   have hq_Changed_NoThing:F.IsF (L2.KOf KX) mg "Changed" "NoThing" false:=by refine' F.has_is KX G ?a_58 ?b_58 ?q_58;(case a_58=>k_is);(case b_58=>k_is);(case q_58=>kit_is)
   have hq_Changed_NoWay:F.IsF (L2.KOf KX) mg "Changed" "NoWay" false:=by refine' F.has_is KX G ?a_59 ?b_59 ?q_59;(case a_59=>k_is);(case b_59=>k_is);(case q_59=>kit_is)
   have hq_Changed_ShelfError:F.IsF (L2.KOf KX) mg "Changed" "ShelfError" true:=by refine' F.has_is KX G ?a_60 ?b_60 ?q_60;(case a_60=>k_is);(case b_60=>k_is);(case q_60=>kit_is)
   have hq_Changed_TooMany:F.IsF (L2.KOf KX) mg "Changed" "TooMany" false:=by refine' F.has_is KX G ?a_61 ?b_61 ?q_61;(case a_61=>k_is);(case b_61=>k_is);(case q_61=>kit_is)
   have he_NoMore:F.ExcI (L2.KOf KX) mg "NoMore":=by refine' F.has_ei KX G ?a_62 ?h1_62 ?h2_62 ?h3_62 ?h4_62 ?h5_62 ?h6_62 ?h7_62 ?h8_62 ?h9_62;(case a_62=>k_is);(case h1_62=>k_is);(case h2_62=>k_is);(case h3_62=>k_is);(case h4_62=>k_is);(case h5_62=>k_is);(case h6_62=>k_is);(case h7_62=>k_is);(case h8_62=>k_is);(case h9_62=>kit_is)
   have hc_NoMore:F.Cat (L2.KOf KX) mg "NoMore" "ShelfError":=by refine' F.has_cat KX G ?a_63 ?b_63 ?h1_63 ?h2_63 ?h3_63 ?h4_63;(case a_63=>k_is);(case b_63=>k_is);(case h1_63=>k_is);(case h2_63=>k_is);(case h3_63=>k_is);(case h4_63=>k_is)
   have hq_NoMore_Changed:F.IsF (L2.KOf KX) mg "NoMore" "Changed" false:=by refine' F.has_is KX G ?a_64 ?b_64 ?q_64;(case a_64=>k_is);(case b_64=>k_is);(case q_64=>kit_is)
   have hq_NoMore_NoBalance:F.IsF (L2.KOf KX) mg "NoMore" "NoBalance" false:=by refine' F.has_is KX G ?a_65 ?b_65 ?q_65;(case a_65=>k_is);(case b_65=>k_is);(case q_65=>kit_is)
   have hq_NoMore_NoMore:F.IsF (L2.KOf KX) mg "NoMore" "NoMore" true:=by refine' F.has_is KX G ?a_66 ?b_66 ?q_66;(case a_66=>k_is);(case b_66=>k_is);(case q_66=>kit_is)
   have hq_NoMore_NoName:F.IsF (L2.KOf KX) mg "NoMore" "NoName" false:=by refine' F.has_is KX G ?a_67 ?b_67 ?q_67;(case a_67=>k_is);(case b_67=>k_is);(case q_67=>kit_is)
   have hq_NoMore_NoNumber:F.IsF (L2.KOf KX) mg "NoMore" "NoNumber" false:=by refine' F.has_is KX G ?a_68 ?b_68 ?q_68;(case a_68=>k_is);(case b_68=>k_is);(case q_68=>kit_is)
   have hq_NoMore_NoPlace:F.IsF (L2.KOf KX) mg "NoMore" "NoPlace" false:=by refine' F.has_is KX G ?a_69 ?b_69 ?q_69;(case a_69=>k_is);(case b_69=>k_is);(case q_69=>kit_is)
   have hq_NoMore_NoRow:F.IsF (L2.KOf KX) mg "NoMore" "NoRow" false:=by refine' F.has_is KX G ?a_70 ?b_70 ?q_70;(case a_70=>k_is);(case b_70=>k_is);(case q_70=>kit_is)
   have hq_NoMore_NoSum:F.IsF (L2.KOf KX) mg "NoMore" "NoSum" false:=by refine' F.has_is KX G ?a_71 ?b_71 ?q_71;(case a_71=>k_is);(case b_71=>k_is);(case q_71=>kit_is)
   have hq_NoMore_NoThing:F.IsF (L2.KOf KX) mg "NoMore" "NoThing" false:=by refine' F.has_is KX G ?a_72 ?b_72 ?q_72;(case a_72=>k_is);(case b_72=>k_is);(case q_72=>kit_is)
   have hq_NoMore_NoWay:F.IsF (L2.KOf KX) mg "NoMore" "NoWay" false:=by refine' F.has_is KX G ?a_73 ?b_73 ?q_73;(case a_73=>k_is);(case b_73=>k_is);(case q_73=>kit_is)
   have hq_NoMore_ShelfError:F.IsF (L2.KOf KX) mg "NoMore" "ShelfError" true:=by refine' F.has_is KX G ?a_74 ?b_74 ?q_74;(case a_74=>k_is);(case b_74=>k_is);(case q_74=>kit_is)
   have hq_NoMore_TooMany:F.IsF (L2.KOf KX) mg "NoMore" "TooMany" false:=by refine' F.has_is KX G ?a_75 ?b_75 ?q_75;(case a_75=>k_is);(case b_75=>k_is);(case q_75=>kit_is)
   have he_NoPlace:F.ExcI (L2.KOf KX) mg "NoPlace":=by refine' F.has_ei KX G ?a_76 ?h1_76 ?h2_76 ?h3_76 ?h4_76 ?h5_76 ?h6_76 ?h7_76 ?h8_76 ?h9_76;(case a_76=>k_is);(case h1_76=>k_is);(case h2_76=>k_is);(case h3_76=>k_is);(case h4_76=>k_is);(case h5_76=>k_is);(case h6_76=>k_is);(case h7_76=>k_is);(case h8_76=>k_is);(case h9_76=>kit_is)
   have hc_NoPlace:F.Cat (L2.KOf KX) mg "NoPlace" "ShelfError":=by refine' F.has_cat KX G ?a_77 ?b_77 ?h1_77 ?h2_77 ?h3_77 ?h4_77;(case a_77=>k_is);(case b_77=>k_is);(case h1_77=>k_is);(case h2_77=>k_is);(case h3_77=>k_is);(case h4_77=>k_is)
   have hq_NoPlace_Changed:F.IsF (L2.KOf KX) mg "NoPlace" "Changed" false:=by refine' F.has_is KX G ?a_78 ?b_78 ?q_78;(case a_78=>k_is);(case b_78=>k_is);(case q_78=>kit_is)
   have hq_NoPlace_NoBalance:F.IsF (L2.KOf KX) mg "NoPlace" "NoBalance" false:=by refine' F.has_is KX G ?a_79 ?b_79 ?q_79;(case a_79=>k_is);(case b_79=>k_is);(case q_79=>kit_is)
   have hq_NoPlace_NoMore:F.IsF (L2.KOf KX) mg "NoPlace" "NoMore" false:=by refine' F.has_is KX G ?a_80 ?b_80 ?q_80;(case a_80=>k_is);(case b_80=>k_is);(case q_80=>kit_is)
   have hq_NoPlace_NoName:F.IsF (L2.KOf KX) mg "NoPlace" "NoName" false:=by refine' F.has_is KX G ?a_81 ?b_81 ?q_81;(case a_81=>k_is);(case b_81=>k_is);(case q_81=>kit_is)
   have hq_NoPlace_NoNumber:F.IsF (L2.KOf KX) mg "NoPlace" "NoNumber" false:=by refine' F.has_is KX G ?a_82 ?b_82 ?q_82;(case a_82=>k_is);(case b_82=>k_is);(case q_82=>kit_is)
   have hq_NoPlace_NoPlace:F.IsF (L2.KOf KX) mg "NoPlace" "NoPlace" true:=by refine' F.has_is KX G ?a_83 ?b_83 ?q_83;(case a_83=>k_is);(case b_83=>k_is);(case q_83=>kit_is)
   have hq_NoPlace_NoRow:F.IsF (L2.KOf KX) mg "NoPlace" "NoRow" false:=by refine' F.has_is KX G ?a_84 ?b_84 ?q_84;(case a_84=>k_is);(case b_84=>k_is);(case q_84=>kit_is)
   have hq_NoPlace_NoSum:F.IsF (L2.KOf KX) mg "NoPlace" "NoSum" false:=by refine' F.has_is KX G ?a_85 ?b_85 ?q_85;(case a_85=>k_is);(case b_85=>k_is);(case q_85=>kit_is)
   have hq_NoPlace_NoThing:F.IsF (L2.KOf KX) mg "NoPlace" "NoThing" false:=by refine' F.has_is KX G ?a_86 ?b_86 ?q_86;(case a_86=>k_is);(case b_86=>k_is);(case q_86=>kit_is)
   have hq_NoPlace_NoWay:F.IsF (L2.KOf KX) mg "NoPlace" "NoWay" false:=by refine' F.has_is KX G ?a_87 ?b_87 ?q_87;(case a_87=>k_is);(case b_87=>k_is);(case q_87=>kit_is)
   have hq_NoPlace_ShelfError:F.IsF (L2.KOf KX) mg "NoPlace" "ShelfError" true:=by refine' F.has_is KX G ?a_88 ?b_88 ?q_88;(case a_88=>k_is);(case b_88=>k_is);(case q_88=>kit_is)
   have hq_NoPlace_TooMany:F.IsF (L2.KOf KX) mg "NoPlace" "TooMany" false:=by refine' F.has_is KX G ?a_89 ?b_89 ?q_89;(case a_89=>k_is);(case b_89=>k_is);(case q_89=>kit_is)
   have hup:F.UpOk (L2.KOf KX) mg Pg.up:=⟨(F.all_cons (hc_Changed) (F.all_cons (hc_NoMore) (F.all_cons (hc_NoPlace) F.all_nil))),(F.all_cons (he_Changed) (F.all_cons (he_NoMore) (F.all_cons (he_NoPlace) F.all_nil))),(F.all_cons ((F.all_cons (F.is_of hq_Changed_Changed) (F.all_cons (F.is_of hq_Changed_NoBalance) (F.all_cons (F.is_of hq_Changed_NoMore) (F.all_cons (F.is_of hq_Changed_NoName) (F.all_cons (F.is_of hq_Changed_NoNumber) (F.all_cons (F.is_of hq_Changed_NoPlace) (F.all_cons (F.is_of hq_Changed_NoRow) (F.all_cons (F.is_of hq_Changed_NoSum) (F.all_cons (F.is_of hq_Changed_NoThing) (F.all_cons (F.is_of hq_Changed_NoWay) (F.all_cons (F.is_of hq_Changed_ShelfError) (F.all_cons (F.is_of hq_Changed_TooMany) F.all_nil))))))))))))) (F.all_cons ((F.all_cons (F.is_of hq_NoMore_Changed) (F.all_cons (F.is_of hq_NoMore_NoBalance) (F.all_cons (F.is_of hq_NoMore_NoMore) (F.all_cons (F.is_of hq_NoMore_NoName) (F.all_cons (F.is_of hq_NoMore_NoNumber) (F.all_cons (F.is_of hq_NoMore_NoPlace) (F.all_cons (F.is_of hq_NoMore_NoRow) (F.all_cons (F.is_of hq_NoMore_NoSum) (F.all_cons (F.is_of hq_NoMore_NoThing) (F.all_cons (F.is_of hq_NoMore_NoWay) (F.all_cons (F.is_of hq_NoMore_ShelfError) (F.all_cons (F.is_of hq_NoMore_TooMany) F.all_nil))))))))))))) (F.all_cons ((F.all_cons (F.is_of hq_NoPlace_Changed) (F.all_cons (F.is_of hq_NoPlace_NoBalance) (F.all_cons (F.is_of hq_NoPlace_NoMore) (F.all_cons (F.is_of hq_NoPlace_NoName) (F.all_cons (F.is_of hq_NoPlace_NoNumber) (F.all_cons (F.is_of hq_NoPlace_NoPlace) (F.all_cons (F.is_of hq_NoPlace_NoRow) (F.all_cons (F.is_of hq_NoPlace_NoSum) (F.all_cons (F.is_of hq_NoPlace_NoThing) (F.all_cons (F.is_of hq_NoPlace_NoWay) (F.all_cons (F.is_of hq_NoPlace_ShelfError) (F.all_cons (F.is_of hq_NoPlace_TooMany) F.all_nil))))))))))))) F.all_nil)))⟩
   have hxi_Changed:F.HasXI (L2.KOf KX) mg "Changed" "ShelfError" "deed" "Changed.__init__" Pg.s_Changed___init__:=by refine' F.has_xi KX G ?aC_91 ?aS_91 ?a_91 ?i_91 ?l_91 ?c_91 ?k_91 ?sa_91 ?na_91 ?hd_91 ?x1_91 ?x2_91 ?r1_91 ?r2_91 ?r3_91;(case aC_91=>k_is);(case aS_91=>k_is);(case a_91=>k_is);(case i_91=>k_is);(case l_91=>k_is);(case c_91=>k_is);(case k_91=>k_is);(case sa_91=>k_is);(case na_91=>k_is);(case hd_91=>k_is);(case x1_91=>kernel_rfl);(case x2_91=>kernel_rfl);(case r1_91=>k_is);(case r2_91=>k_is);(case r3_91=>k_is)
   have hxf_Changed_deed:F.XFld (L2.KOf KX) mg "Changed" "deed":=by refine' F.has_xf KX G ?a_92 he_Changed ?na_92 ?hd_92;(case a_92=>k_is);(case na_92=>k_is);(case hd_92=>k_is)
   have hct_Changed_Changed:F.CatB (L2.KOf KX) mg "Changed" "Changed" true:=by refine' F.has_ctb KX G ?a_93 ?b_93 ?h1_93 ?h2_93 ?h3_93 ?h4_93;(case a_93=>k_is);(case b_93=>k_is);(case h1_93=>k_is);(case h2_93=>k_is);(case h3_93=>k_is);(case h4_93=>k_is)
   have hct_Changed_NoMore:F.CatB (L2.KOf KX) mg "NoMore" "Changed" false:=by refine' F.has_ctb KX G ?a_94 ?b_94 ?h1_94 ?h2_94 ?h3_94 ?h4_94;(case a_94=>k_is);(case b_94=>k_is);(case h1_94=>k_is);(case h2_94=>k_is);(case h3_94=>k_is);(case h4_94=>k_is)
   have hct_Changed_NoPlace:F.CatB (L2.KOf KX) mg "NoPlace" "Changed" false:=by refine' F.has_ctb KX G ?a_95 ?b_95 ?h1_95 ?h2_95 ?h3_95 ?h4_95;(case a_95=>k_is);(case b_95=>k_is);(case h1_95=>k_is);(case h2_95=>k_is);(case h3_95=>k_is);(case h4_95=>k_is)
   have hct_Changed:∀c∈Pg.ct_Changed,F.CatB (L2.KOf KX) mg c "Changed" true:=(F.all_cons (hct_Changed_Changed) F.all_nil)
   have hno_Changed:∀c∈Pg.no_Changed,F.CatB (L2.KOf KX) mg c "Changed" false:=(F.all_cons (hct_Changed_NoMore) (F.all_cons (hct_Changed_NoPlace) F.all_nil))
   have hct_NoMore_Changed:F.CatB (L2.KOf KX) mg "Changed" "NoMore" false:=by refine' F.has_ctb KX G ?a_98 ?b_98 ?h1_98 ?h2_98 ?h3_98 ?h4_98;(case a_98=>k_is);(case b_98=>k_is);(case h1_98=>k_is);(case h2_98=>k_is);(case h3_98=>k_is);(case h4_98=>k_is)
   have hct_NoMore_NoMore:F.CatB (L2.KOf KX) mg "NoMore" "NoMore" true:=by refine' F.has_ctb KX G ?a_99 ?b_99 ?h1_99 ?h2_99 ?h3_99 ?h4_99;(case a_99=>k_is);(case b_99=>k_is);(case h1_99=>k_is);(case h2_99=>k_is);(case h3_99=>k_is);(case h4_99=>k_is)
   have hct_NoMore_NoPlace:F.CatB (L2.KOf KX) mg "NoPlace" "NoMore" false:=by refine' F.has_ctb KX G ?a_100 ?b_100 ?h1_100 ?h2_100 ?h3_100 ?h4_100;(case a_100=>k_is);(case b_100=>k_is);(case h1_100=>k_is);(case h2_100=>k_is);(case h3_100=>k_is);(case h4_100=>k_is)
   have hct_NoMore:∀c∈Pg.ct_NoMore,F.CatB (L2.KOf KX) mg c "NoMore" true:=(F.all_cons (hct_NoMore_NoMore) F.all_nil)
   have hno_NoMore:∀c∈Pg.no_NoMore,F.CatB (L2.KOf KX) mg c "NoMore" false:=(F.all_cons (hct_NoMore_Changed) (F.all_cons (hct_NoMore_NoPlace) F.all_nil))
   have hct_NoPlace_Changed:F.CatB (L2.KOf KX) mg "Changed" "NoPlace" false:=by refine' F.has_ctb KX G ?a_103 ?b_103 ?h1_103 ?h2_103 ?h3_103 ?h4_103;(case a_103=>k_is);(case b_103=>k_is);(case h1_103=>k_is);(case h2_103=>k_is);(case h3_103=>k_is);(case h4_103=>k_is)
   have hct_NoPlace_NoMore:F.CatB (L2.KOf KX) mg "NoMore" "NoPlace" false:=by refine' F.has_ctb KX G ?a_104 ?b_104 ?h1_104 ?h2_104 ?h3_104 ?h4_104;(case a_104=>k_is);(case b_104=>k_is);(case h1_104=>k_is);(case h2_104=>k_is);(case h3_104=>k_is);(case h4_104=>k_is)
   have hct_NoPlace_NoPlace:F.CatB (L2.KOf KX) mg "NoPlace" "NoPlace" true:=by refine' F.has_ctb KX G ?a_105 ?b_105 ?h1_105 ?h2_105 ?h3_105 ?h4_105;(case a_105=>k_is);(case b_105=>k_is);(case h1_105=>k_is);(case h2_105=>k_is);(case h3_105=>k_is);(case h4_105=>k_is)
   have hct_NoPlace:∀c∈Pg.ct_NoPlace,F.CatB (L2.KOf KX) mg c "NoPlace" true:=(F.all_cons (hct_NoPlace_NoPlace) F.all_nil)
   have hno_NoPlace:∀c∈Pg.no_NoPlace,F.CatB (L2.KOf KX) mg c "NoPlace" false:=(F.all_cons (hct_NoPlace_Changed) (F.all_cons (hct_NoPlace_NoMore) F.all_nil))
   have hal_cut_rows:mg "cut_rows"=mg "cut":=by refine' F.has_alias KX G ?a_108 ?b_108;(case a_108=>k_is);(case b_108=>k_is)
   have hal_laid_rows:mg "laid_rows"=mg "laid":=by refine' F.has_alias KX G ?a_109 ?b_109;(case a_109=>k_is);(case b_109=>k_is)
   have hal_out_rows:mg "out_rows"=mg "out":=by refine' F.has_alias KX G ?a_110 ?b_110;(case a_110=>k_is);(case b_110=>k_is)
   have hal_put_rows:mg "put_rows"=mg "put":=by refine' F.has_alias KX G ?a_111 ?b_111;(case a_111=>k_is);(case b_111=>k_is)
   have uel:F.Fld (L2.KOf KX) mg "Shelf" "done":=by refine' F.has_fld KX G ?aC_112 (F.has_cls KX G ?aC_112 ?pg_112 ?hd_112 ?po_112 ?sa_112) ?n_112;(case aC_112=>k_is);(case pg_112=>k_is);(case hd_112=>k_is);(case po_112=>k_is);(case sa_112=>k_is);(case n_112=>k_is)
   have ud0:F.Fld (L2.KOf KX) mg "Shelf" "held":=by refine' F.has_fld KX G ?aC_113 (F.has_cls KX G ?aC_113 ?pg_113 ?hd_113 ?po_113 ?sa_113) ?n_113;(case aC_113=>k_is);(case pg_113=>k_is);(case hd_113=>k_is);(case po_113=>k_is);(case sa_113=>k_is);(case n_113=>k_is)
   have uek:F.Fld (L2.KOf KX) mg "Shelf" "wood":=by refine' F.has_fld KX G ?aC_114 (F.has_cls KX G ?aC_114 ?pg_114 ?hd_114 ?po_114 ?sa_114) ?n_114;(case aC_114=>k_is);(case pg_114=>k_is);(case hd_114=>k_is);(case po_114=>k_is);(case sa_114=>k_is);(case n_114=>k_is)
   have udc:F.Fld (L2.KOf KX) mg "Strict" "mark":=by refine' F.has_fld KX G ?aC_115 (F.has_cls KX G ?aC_115 ?pg_115 ?hd_115 ?po_115 ?sa_115) ?n_115;(case aC_115=>k_is);(case pg_115=>k_is);(case hd_115=>k_is);(case po_115=>k_is);(case sa_115=>k_is);(case n_115=>k_is)
   have ud4:F.Fld (L2.KOf KX) mg "Strict" "met":=by refine' F.has_fld KX G ?aC_116 (F.has_cls KX G ?aC_116 ?pg_116 ?hd_116 ?po_116 ?sa_116) ?n_116;(case aC_116=>k_is);(case pg_116=>k_is);(case hd_116=>k_is);(case po_116=>k_is);(case sa_116=>k_is);(case n_116=>k_is)
   have ucv:F.Fld (L2.KOf KX) mg "Strict" "shelf":=by refine' F.has_fld KX G ?aC_117 (F.has_cls KX G ?aC_117 ?pg_117 ?hd_117 ?po_117 ?sa_117) ?n_117;(case aC_117=>k_is);(case pg_117=>k_is);(case hd_117=>k_is);(case po_117=>k_is);(case sa_117=>k_is);(case n_117=>k_is)
   have ucm:F.Fld (L2.KOf KX) mg "Strict" "stood":=by refine' F.has_fld KX G ?aC_118 (F.has_cls KX G ?aC_118 ?pg_118 ?hd_118 ?po_118 ?sa_118) ?n_118;(case aC_118=>k_is);(case pg_118=>k_is);(case hd_118=>k_is);(case po_118=>k_is);(case sa_118=>k_is);(case n_118=>k_is)
   have uc4:F.Fld (L2.KOf KX) mg "Wood" "adding":=by refine' F.has_fld KX G ?aC_119 (F.has_cls KX G ?aC_119 ?pg_119 ?hd_119 ?po_119 ?sa_119) ?n_119;(case aC_119=>k_is);(case pg_119=>k_is);(case hd_119=>k_is);(case po_119=>k_is);(case sa_119=>k_is);(case n_119=>k_is)
   have ubx:F.Fld (L2.KOf KX) mg "Wood" "nodes_made":=by refine' F.has_fld KX G ?aC_120 (F.has_cls KX G ?aC_120 ?pg_120 ?hd_120 ?po_120 ?sa_120) ?n_120;(case aC_120=>k_is);(case pg_120=>k_is);(case hd_120=>k_is);(case po_120=>k_is);(case sa_120=>k_is);(case n_120=>k_is)
   have uce:F.HasMth (L2.KOf KX) mg "Wood" "numbered" "Wood.numbered" Pg.s_Wood_numbered:=by refine' F.has_mth KX G ?aC_121 (F.has_cls KX G ?aC_121 ?pg_121 ?hd_121 ?po_121 ?sa_121) ?a_121 ?i_121 ?l_121 ?c_121 ?k_121;(case aC_121=>k_is);(case pg_121=>k_is);(case hd_121=>k_is);(case po_121=>k_is);(case sa_121=>k_is);(case a_121=>k_is);(case i_121=>k_is);(case l_121=>k_is);(case c_121=>k_is);(case k_121=>k_is)
   have udt:F.HasDef (L2.KOf KX) mg "check_room" Pg.s_check_room 0:=by refine' F.has_def KX G ?a_122 ?l_122 ?c_122 ?k_122;(case a_122=>k_is);(case l_122=>k_is);(case c_122=>k_is);(case k_122=>k_is)
   have ugl:F.HasDef (L2.KOf KX) mg "height" Pg.s_height 0:=by refine' F.has_def KX G ?a_123 ?l_123 ?c_123 ?k_123;(case a_123=>k_is);(case l_123=>k_is);(case c_123=>k_is);(case k_123=>k_is)
   have ucp:F.HasDef (L2.KOf KX) mg "height_above" Pg.s_height_above 0:=by refine' F.has_def KX G ?a_124 ?l_124 ?c_124 ?k_124;(case a_124=>k_is);(case l_124=>k_is);(case c_124=>k_is);(case k_124=>k_is)
   have ud3:F.HasDef (L2.KOf KX) mg "in_balance" Pg.s_in_balance 0:=by refine' F.has_def KX G ?a_125 ?l_125 ?c_125 ?k_125;(case a_125=>k_is);(case l_125=>k_is);(case c_125=>k_is);(case k_125=>k_is)
   have uhr:F.HasDef (L2.KOf KX) mg "size" Pg.s_size 0:=by refine' F.has_def KX G ?a_126 ?l_126 ?c_126 ?k_126;(case a_126=>k_is);(case l_126=>k_is);(case c_126=>k_is);(case k_126=>k_is)
   have udv:F.HasDef (L2.KOf KX) mg "size_above" Pg.s_size_above 0:=by refine' F.has_def KX G ?a_127 ?l_127 ?c_127 ?k_127;(case a_127=>k_is);(case l_127=>k_is);(case c_127=>k_is);(case k_127=>k_is)
   have uhq:F.HasDef (L2.KOf KX) mg "back" Pg.s_back 0:=by refine' F.has_def KX G ?a_128 ?l_128 ?c_128 ?k_128;(case a_128=>k_is);(case l_128=>k_is);(case c_128=>k_is);(case k_128=>k_is)
   have ucx:F.HasDef (L2.KOf KX) mg "backward_sum" Pg.s_backward_sum 0:=by refine' F.has_def KX G ?a_129 ?l_129 ?c_129 ?k_129;(case a_129=>k_is);(case l_129=>k_is);(case c_129=>k_is);(case k_129=>k_is)
   have ug6:F.HasDef (L2.KOf KX) mg "total" Pg.s_total 0:=by refine' F.has_def KX G ?a_130 ?l_130 ?c_130 ?k_130;(case a_130=>k_is);(case l_130=>k_is);(case c_130=>k_is);(case k_130=>k_is)
   have udu:F.HasDef (L2.KOf KX) mg "onward_sum" Pg.s_onward_sum 0:=by refine' F.has_def KX G ?a_131 ?l_131 ?c_131 ?k_131;(case a_131=>k_is);(case l_131=>k_is);(case c_131=>k_is);(case k_131=>k_is)
   have uei:F.HasDef (L2.KOf KX) mg "sums_above" Pg.s_sums_above 0:=by refine' F.has_def KX G ?a_132 ?l_132 ?c_132 ?k_132;(case a_132=>k_is);(case l_132=>k_is);(case c_132=>k_is);(case k_132=>k_is)
   have ufh:F.HasMth (L2.KOf KX) mg "Wood" "node" "Wood.node" Pg.s_Wood_node:=by refine' F.has_mth KX G ?aC_133 (F.has_cls KX G ?aC_133 ?pg_133 ?hd_133 ?po_133 ?sa_133) ?a_133 ?i_133 ?l_133 ?c_133 ?k_133;(case aC_133=>k_is);(case pg_133=>k_is);(case hd_133=>k_is);(case po_133=>k_is);(case sa_133=>k_is);(case a_133=>k_is);(case i_133=>k_is);(case l_133=>k_is);(case c_133=>k_is);(case k_133=>k_is)
   have uhb:F.HasDef (L2.KOf KX) mg "built" Pg.s_built 0:=by refine' F.has_def KX G ?a_134 ?l_134 ?c_134 ?k_134;(case a_134=>k_is);(case l_134=>k_is);(case c_134=>k_is);(case k_134=>k_is)
   have uf9:F.HasDef (L2.KOf KX) mg "make_of" Pg.s_make_of 0:=by refine' F.has_def KX G ?a_135 ?l_135 ?c_135 ?k_135;(case a_135=>k_is);(case l_135=>k_is);(case c_135=>k_is);(case k_135=>k_is)
   have ub7:F.HasMk (L2.KOf KX) mg "Shelf" "Shelf.__init__" Pg.s_Shelf___init__ 1:=by refine' F.has_mk1 KX G ?aC_136 ?mk_136 ?kc_136 ?a_136 ?i_136 ?l_136 ?c_136 ?k_136 ?t_136;(case aC_136=>k_is);(case mk_136=>k_is);(case kc_136=>k_is);(case a_136=>k_is);(case i_136=>k_is);(case l_136=>k_is);(case c_136=>k_is);(case k_136=>k_is);(case t_136=>k_is)
   have uea:F.HasMth (L2.KOf KX) mg "Shelf" "make" "Shelf.make" Pg.s_Shelf_make:=by refine' F.has_mth KX G ?aC_137 (F.has_cls KX G ?aC_137 ?pg_137 ?hd_137 ?po_137 ?sa_137) ?a_137 ?i_137 ?l_137 ?c_137 ?k_137;(case aC_137=>k_is);(case pg_137=>k_is);(case hd_137=>k_is);(case po_137=>k_is);(case sa_137=>k_is);(case a_137=>k_is);(case i_137=>k_is);(case l_137=>k_is);(case c_137=>k_is);(case k_137=>k_is)
   have uhk:F.HasDef (L2.KOf KX) mg "seen" Pg.s_seen 0:=by refine' F.has_def KX G ?a_138 ?l_138 ?c_138 ?k_138;(case a_138=>k_is);(case l_138=>k_is);(case c_138=>k_is);(case k_138=>k_is)
   have ugr:F.HasDef (L2.KOf KX) mg "gather" Pg.s_gather 0:=by refine' F.has_def KX G ?a_139 ?l_139 ?c_139 ?k_139;(case a_139=>k_is);(case l_139=>k_is);(case c_139=>k_is);(case k_139=>k_is)
   have ufi:F.HasDef (L2.KOf KX) mg "things_of" Pg.s_things_of 0:=by refine' F.has_def KX G ?a_140 ?l_140 ?c_140 ?k_140;(case a_140=>k_is);(case l_140=>k_is);(case c_140=>k_is);(case k_140=>k_is)
   have ucq:F.HasMth (L2.KOf KX) mg "Shelf" "things" "Shelf.things" Pg.s_Shelf_things:=by refine' F.has_mth KX G ?aC_141 (F.has_cls KX G ?aC_141 ?pg_141 ?hd_141 ?po_141 ?sa_141) ?a_141 ?i_141 ?l_141 ?c_141 ?k_141;(case aC_141=>k_is);(case pg_141=>k_is);(case hd_141=>k_is);(case po_141=>k_is);(case sa_141=>k_is);(case a_141=>k_is);(case i_141=>k_is);(case l_141=>k_is);(case c_141=>k_is);(case k_141=>k_is)
   have uda:F.HasMth (L2.KOf KX) mg "Shelf" "deeds" "Shelf.deeds" Pg.s_Shelf_deeds:=by refine' F.has_mth KX G ?aC_142 (F.has_cls KX G ?aC_142 ?pg_142 ?hd_142 ?po_142 ?sa_142) ?a_142 ?i_142 ?l_142 ?c_142 ?k_142;(case aC_142=>k_is);(case pg_142=>k_is);(case hd_142=>k_is);(case po_142=>k_is);(case sa_142=>k_is);(case a_142=>k_is);(case i_142=>k_is);(case l_142=>k_is);(case c_142=>k_is);(case k_142=>k_is)
   have ub4:F.HasMk (L2.KOf KX) mg "Strict" "Walker.__init__" Pg.s_Strict___init__ 0:=by refine' F.has_mk KX G ?aC_143 ?mk_143 ?kc_143 ?a_143 ?i_143 ?l_143 ?c_143 ?k_143;(case aC_143=>k_is);(case mk_143=>k_is);(case kc_143=>k_is);(case a_143=>k_is);(case i_143=>k_is);(case l_143=>k_is);(case c_143=>k_is);(case k_143=>k_is)
   have uci:F.HasMk (L2.KOf KX) mg "Wood" "Wood.__init__" Pg.s_Wood___init__ 1:=by refine' F.has_mk1 KX G ?aC_144 ?mk_144 ?kc_144 ?a_144 ?i_144 ?l_144 ?c_144 ?k_144 ?t_144;(case aC_144=>k_is);(case mk_144=>k_is);(case kc_144=>k_is);(case a_144=>k_is);(case i_144=>k_is);(case l_144=>k_is);(case c_144=>k_is);(case k_144=>k_is);(case t_144=>k_is)
   have ufe:F.HasDef (L2.KOf KX) mg "_law_cell" Pg.s__law_cell 0:=by refine' F.has_def KX G ?a_145 ?l_145 ?c_145 ?k_145;(case a_145=>k_is);(case l_145=>k_is);(case c_145=>k_is);(case k_145=>k_is)
   have ueh:F.HasMth (L2.KOf KX) mg "Shelf" "hold" "Shelf.hold" Pg.s_Shelf_hold:=by refine' F.has_mth KX G ?aC_146 (F.has_cls KX G ?aC_146 ?pg_146 ?hd_146 ?po_146 ?sa_146) ?a_146 ?i_146 ?l_146 ?c_146 ?k_146;(case aC_146=>k_is);(case pg_146=>k_is);(case hd_146=>k_is);(case po_146=>k_is);(case sa_146=>k_is);(case a_146=>k_is);(case i_146=>k_is);(case l_146=>k_is);(case c_146=>k_is);(case k_146=>k_is)
   have ud7:F.HasMth (L2.KOf KX) mg "Shelf" "back" "Shelf.back" Pg.s_Shelf_back:=by refine' F.has_mth KX G ?aC_147 (F.has_cls KX G ?aC_147 ?pg_147 ?hd_147 ?po_147 ?sa_147) ?a_147 ?i_147 ?l_147 ?c_147 ?k_147;(case aC_147=>k_is);(case pg_147=>k_is);(case hd_147=>k_is);(case po_147=>k_is);(case sa_147=>k_is);(case a_147=>k_is);(case i_147=>k_is);(case l_147=>k_is);(case c_147=>k_is);(case k_147=>k_is)
   have uc0:F.HasDef (L2.KOf KX) mg "check_place" Pg.s_check_place 0:=by refine' F.has_def KX G ?a_148 ?l_148 ?c_148 ?k_148;(case a_148=>k_is);(case l_148=>k_is);(case c_148=>k_is);(case k_148=>k_is)
   have uc2:F.HasMth (L2.KOf KX) mg "Wood" "turned" "Wood.turned" Pg.s_Wood_turned:=by refine' F.has_mth KX G ?aC_149 (F.has_cls KX G ?aC_149 ?pg_149 ?hd_149 ?po_149 ?sa_149) ?a_149 ?i_149 ?l_149 ?c_149 ?k_149;(case aC_149=>k_is);(case pg_149=>k_is);(case hd_149=>k_is);(case po_149=>k_is);(case sa_149=>k_is);(case a_149=>k_is);(case i_149=>k_is);(case l_149=>k_is);(case c_149=>k_is);(case k_149=>k_is)
   have ugz:F.HasDef (L2.KOf KX) mg "parts" Pg.s_parts 0:=by refine' F.has_def KX G ?a_150 ?l_150 ?c_150 ?k_150;(case a_150=>k_is);(case l_150=>k_is);(case c_150=>k_is);(case k_150=>k_is)
   have uc9:F.HasDef (L2.KOf KX) mg "lifted_left" Pg.s_lifted_left 0:=by refine' F.has_def KX G ?a_151 ?l_151 ?c_151 ?k_151;(case a_151=>k_is);(case l_151=>k_is);(case c_151=>k_is);(case k_151=>k_is)
   have uco:F.HasDef (L2.KOf KX) mg "lifted_right" Pg.s_lifted_right 0:=by refine' F.has_def KX G ?a_152 ?l_152 ?c_152 ?k_152;(case a_152=>k_is);(case l_152=>k_is);(case c_152=>k_is);(case k_152=>k_is)
   have ufq:F.HasDef (L2.KOf KX) mg "balanced" Pg.s_balanced 0:=by refine' F.has_def KX G ?a_153 ?l_153 ?c_153 ?k_153;(case a_153=>k_is);(case l_153=>k_is);(case c_153=>k_is);(case k_153=>k_is)
   have ugs:F.HasDef (L2.KOf KX) mg "joined" Pg.s_joined 0:=by refine' F.has_def KX G ?a_154 ?l_154 ?c_154 ?k_154;(case a_154=>k_is);(case l_154=>k_is);(case c_154=>k_is);(case k_154=>k_is)
   have ueu:F.HasDef (L2.KOf KX) mg "cut_ahead" Pg.s_cut_ahead 0:=by refine' F.has_def KX G ?a_155 ?l_155 ?c_155 ?k_155;(case a_155=>k_is);(case l_155=>k_is);(case c_155=>k_is);(case k_155=>k_is)
   have uid:F.HasDef (L2.KOf KX) mg "cut" Pg.s_cut 0:=by refine' F.has_def KX G ?a_156 ?l_156 ?c_156 ?k_156;(case a_156=>k_is);(case l_156=>k_is);(case c_156=>k_is);(case k_156=>k_is)
   have ueq:F.HasMth (L2.KOf KX) mg "Shelf" "cut" "Shelf.cut" Pg.s_Shelf_cut:=by refine' F.has_mth KX G ?aC_157 (F.has_cls KX G ?aC_157 ?pg_157 ?hd_157 ?po_157 ?sa_157) ?a_157 ?i_157 ?l_157 ?c_157 ?k_157;(case aC_157=>k_is);(case pg_157=>k_is);(case hd_157=>k_is);(case po_157=>k_is);(case sa_157=>k_is);(case a_157=>k_is);(case i_157=>k_is);(case l_157=>k_is);(case c_157=>k_is);(case k_157=>k_is)
   have ufz:F.HasDef (L2.KOf KX) mg "thing_at" Pg.s_thing_at 0:=by refine' F.has_def KX G ?a_158 ?l_158 ?c_158 ?k_158;(case a_158=>k_is);(case l_158=>k_is);(case c_158=>k_is);(case k_158=>k_is)
   have uik:F.HasDef (L2.KOf KX) mg "at" Pg.s_at 0:=by refine' F.has_def KX G ?a_159 ?l_159 ?c_159 ?k_159;(case a_159=>k_is);(case l_159=>k_is);(case c_159=>k_is);(case k_159=>k_is)
   have uch:F.HasDef (L2.KOf KX) mg "laid_together" Pg.s_laid_together 0:=by refine' F.has_def KX G ?a_160 ?l_160 ?c_160 ?k_160;(case a_160=>k_is);(case l_160=>k_is);(case c_160=>k_is);(case k_160=>k_is)
   have uer:F.HasDef (L2.KOf KX) mg "taken_out" Pg.s_taken_out 0:=by refine' F.has_def KX G ?a_161 ?l_161 ?c_161 ?k_161;(case a_161=>k_is);(case l_161=>k_is);(case c_161=>k_is);(case k_161=>k_is)
   have uhy:F.HasDef (L2.KOf KX) mg "out" Pg.s_out 0:=by refine' F.has_def KX G ?a_162 ?l_162 ?c_162 ?k_162;(case a_162=>k_is);(case l_162=>k_is);(case c_162=>k_is);(case k_162=>k_is)
   have uev:F.HasMth (L2.KOf KX) mg "Shelf" "out" "Shelf.out" Pg.s_Shelf_out:=by refine' F.has_mth KX G ?aC_163 (F.has_cls KX G ?aC_163 ?pg_163 ?hd_163 ?po_163 ?sa_163) ?a_163 ?i_163 ?l_163 ?c_163 ?k_163;(case aC_163=>k_is);(case pg_163=>k_is);(case hd_163=>k_is);(case po_163=>k_is);(case sa_163=>k_is);(case a_163=>k_is);(case i_163=>k_is);(case l_163=>k_is);(case c_163=>k_is);(case k_163=>k_is)
   have ug8:F.HasDef (L2.KOf KX) mg "given" Pg.s_given 0:=by refine' F.has_def KX G ?a_164 ?l_164 ?c_164 ?k_164;(case a_164=>k_is);(case l_164=>k_is);(case c_164=>k_is);(case k_164=>k_is)
   have uf6:F.HasDef (L2.KOf KX) mg "swapped" Pg.s_swapped 0:=by refine' F.has_def KX G ?a_165 ?l_165 ?c_165 ?k_165;(case a_165=>k_is);(case l_165=>k_is);(case c_165=>k_is);(case k_165=>k_is)
   have udy:F.HasMth (L2.KOf KX) mg "Shelf" "swap" "Shelf.swap" Pg.s_Shelf_swap:=by refine' F.has_mth KX G ?aC_166 (F.has_cls KX G ?aC_166 ?pg_166 ?hd_166 ?po_166 ?sa_166) ?a_166 ?i_166 ?l_166 ?c_166 ?k_166;(case aC_166=>k_is);(case pg_166=>k_is);(case hd_166=>k_is);(case po_166=>k_is);(case sa_166=>k_is);(case a_166=>k_is);(case i_166=>k_is);(case l_166=>k_is);(case c_166=>k_is);(case k_166=>k_is)
   have ucg:F.HasDef (L2.KOf KX) mg "check_stretch" Pg.s_check_stretch 0:=by refine' F.has_def KX G ?a_167 ?l_167 ?c_167 ?k_167;(case a_167=>k_is);(case l_167=>k_is);(case c_167=>k_is);(case k_167=>k_is)
   have udl:F.HasDef (L2.KOf KX) mg "turned_part" Pg.s_turned_part 0:=by refine' F.has_def KX G ?a_168 ?l_168 ?c_168 ?k_168;(case a_168=>k_is);(case l_168=>k_is);(case c_168=>k_is);(case k_168=>k_is)
   have ucs:F.HasMth (L2.KOf KX) mg "Shelf" "turned" "Shelf.turned" Pg.s_Shelf_turned:=by refine' F.has_mth KX G ?aC_169 (F.has_cls KX G ?aC_169 ?pg_169 ?hd_169 ?po_169 ?sa_169) ?a_169 ?i_169 ?l_169 ?c_169 ?k_169;(case aC_169=>k_is);(case pg_169=>k_is);(case hd_169=>k_is);(case po_169=>k_is);(case sa_169=>k_is);(case a_169=>k_is);(case i_169=>k_is);(case l_169=>k_is);(case c_169=>k_is);(case k_169=>k_is)
   have uho:F.HasDef (L2.KOf KX) mg "laid" Pg.s_laid 0:=by refine' F.has_def KX G ?a_170 ?l_170 ?c_170 ?k_170;(case a_170=>k_is);(case l_170=>k_is);(case c_170=>k_is);(case k_170=>k_is)
   have ud8:F.HasMth (L2.KOf KX) mg "Shelf" "laid" "Shelf.laid" Pg.s_Shelf_laid:=by refine' F.has_mth KX G ?aC_171 (F.has_cls KX G ?aC_171 ?pg_171 ?hd_171 ?po_171 ?sa_171) ?a_171 ?i_171 ?l_171 ?c_171 ?k_171;(case aC_171=>k_is);(case pg_171=>k_is);(case hd_171=>k_is);(case po_171=>k_is);(case sa_171=>k_is);(case a_171=>k_is);(case i_171=>k_is);(case l_171=>k_is);(case c_171=>k_is);(case k_171=>k_is)
   have uex:F.HasDef (L2.KOf KX) mg "_law_laid" Pg.s__law_laid 0:=by refine' F.has_def KX G ?a_172 ?l_172 ?c_172 ?k_172;(case a_172=>k_is);(case l_172=>k_is);(case c_172=>k_is);(case k_172=>k_is)
   have ugu:F.HasDef (L2.KOf KX) mg "put_in" Pg.s_put_in 0:=by refine' F.has_def KX G ?a_173 ?l_173 ?c_173 ?k_173;(case a_173=>k_is);(case l_173=>k_is);(case c_173=>k_is);(case k_173=>k_is)
   have uh0:F.HasDef (L2.KOf KX) mg "put" Pg.s_put 0:=by refine' F.has_def KX G ?a_174 ?l_174 ?c_174 ?k_174;(case a_174=>k_is);(case l_174=>k_is);(case c_174=>k_is);(case k_174=>k_is)
   have uey:F.HasMth (L2.KOf KX) mg "Shelf" "put" "Shelf.put" Pg.s_Shelf_put:=by refine' F.has_mth KX G ?aC_175 (F.has_cls KX G ?aC_175 ?pg_175 ?hd_175 ?po_175 ?sa_175) ?a_175 ?i_175 ?l_175 ?c_175 ?k_175;(case aC_175=>k_is);(case pg_175=>k_is);(case hd_175=>k_is);(case po_175=>k_is);(case sa_175=>k_is);(case a_175=>k_is);(case i_175=>k_is);(case l_175=>k_is);(case c_175=>k_is);(case k_175=>k_is)
   have udj:F.HasDef (L2.KOf KX) mg "_law_put_in" Pg.s__law_put_in 0:=by refine' F.has_def KX G ?a_176 ?l_176 ?c_176 ?k_176;(case a_176=>k_is);(case l_176=>k_is);(case c_176=>k_is);(case k_176=>k_is)
   have uet:F.HasDef (L2.KOf KX) mg "_law_done" Pg.s__law_done 0:=by refine' F.has_def KX G ?a_177 ?l_177 ?c_177 ?k_177;(case a_177=>k_is);(case l_177=>k_is);(case c_177=>k_is);(case k_177=>k_is)
   have ubu:F.HasMth (L2.KOf KX) mg "Strict" "new_deeds" "Walker.new_deeds" Pg.s_Strict_new_deeds:=by refine' F.has_mth KX G ?aC_178 (F.has_cls KX G ?aC_178 ?pg_178 ?hd_178 ?po_178 ?sa_178) ?a_178 ?i_178 ?l_178 ?c_178 ?k_178;(case aC_178=>k_is);(case pg_178=>k_is);(case hd_178=>k_is);(case po_178=>k_is);(case sa_178=>k_is);(case a_178=>k_is);(case i_178=>k_is);(case l_178=>k_is);(case c_178=>k_is);(case k_178=>k_is)
   have ud6:F.HasMth (L2.KOf KX) mg "Strict" "row" "Strict.row" Pg.s_Strict_row:=by refine' F.has_mth KX G ?aC_179 (F.has_cls KX G ?aC_179 ?pg_179 ?hd_179 ?po_179 ?sa_179) ?a_179 ?i_179 ?l_179 ?c_179 ?k_179;(case aC_179=>k_is);(case pg_179=>k_is);(case hd_179=>k_is);(case po_179=>k_is);(case sa_179=>k_is);(case a_179=>k_is);(case i_179=>k_is);(case l_179=>k_is);(case c_179=>k_is);(case k_179=>k_is)
   have ude:F.HasMth (L2.KOf KX) mg "Strict" "more" "Walker.more" Pg.s_Strict_more:=by refine' F.has_mth KX G ?aC_180 (F.has_cls KX G ?aC_180 ?pg_180 ?hd_180 ?po_180 ?sa_180) ?a_180 ?i_180 ?l_180 ?c_180 ?k_180;(case aC_180=>k_is);(case pg_180=>k_is);(case hd_180=>k_is);(case po_180=>k_is);(case sa_180=>k_is);(case a_180=>k_is);(case i_180=>k_is);(case l_180=>k_is);(case c_180=>k_is);(case k_180=>k_is)
   have udg:F.HasMth (L2.KOf KX) mg "Strict" "step" "Walker.step" Pg.s_Strict_step:=by refine' F.has_mth KX G ?aC_181 (F.has_cls KX G ?aC_181 ?pg_181 ?hd_181 ?po_181 ?sa_181) ?a_181 ?i_181 ?l_181 ?c_181 ?k_181;(case aC_181=>k_is);(case pg_181=>k_is);(case hd_181=>k_is);(case po_181=>k_is);(case sa_181=>k_is);(case a_181=>k_is);(case i_181=>k_is);(case l_181=>k_is);(case c_181=>k_is);(case k_181=>k_is)
   have uen:F.HasDef (L2.KOf KX) mg "_law_heard" Pg.s__law_heard 0:=by refine' F.has_def KX G ?a_182 ?l_182 ?c_182 ?k_182;(case a_182=>k_is);(case l_182=>k_is);(case c_182=>k_is);(case k_182=>k_is)
   have ucy:F.HasDef (L2.KOf KX) mg "_law_refused" Pg.s__law_refused 0:=by refine' F.has_def KX G ?a_183 ?l_183 ?c_183 ?k_183;(case a_183=>k_is);(case l_183=>k_is);(case c_183=>k_is);(case k_183=>k_is)
   have uc1:F.HasDef (L2.KOf KX) mg "_law_walked" Pg.s__law_walked 0:=by refine' F.has_def KX G ?a_184 ?l_184 ?c_184 ?k_184;(case a_184=>k_is);(case l_184=>k_is);(case c_184=>k_is);(case k_184=>k_is)
   have uh6:F.HasDef (L2.KOf KX) mg "law" Pg.s_law 0:=by refine' F.has_def KX G ?a_185 ?l_185 ?c_185 ?k_185;(case a_185=>k_is);(case l_185=>k_is);(case c_185=>k_is);(case k_185=>k_is)
   obtain⟨fa',fd,hm,hb,hF⟩:=Pg.law_all (P:=(PySem.Challenge.rw_ownshelf_k43_strict_walkers).prog) (w:=w) ⟨ud1,uh5,uhs,uif,ud5,uhw,uhp,uhz,uh4,ug5,uft,ug0,uhd,ug9,uht,ugv,ugo,uhm,ugt,udb,uhe,uhl,uhc,ug1,ugi,uel,ud0,uek,udc,ud4,ucv,ucm,uc4,ubx,ugb,ufj,ugy,ugn,ufp,uf5,uhf,ug4,uf8,uha,udz,ugd,hov_Walker,ho_Strict_Walker,ugq,ugg,hup,hxi_Changed,hxf_Changed_deed,hct_Changed,hno_Changed,hct_NoMore,hno_NoMore,hct_NoPlace,hno_NoPlace,hal_cut_rows,hal_laid_rows,hal_out_rows,hal_put_rows,uce,udt,ugl,ucp,ud3,uhr,udv,uhq,ucx,ug6,udu,uei,ufh,uhb,uf9,ub7,uea,uhk,ugr,ufi,ucq,uda,ub4,uci,ufe,ueh,ud7,uc0,uc2,ugz,uc9,uco,ufq,ugs,ueu,uid,ueq,ufz,uik,uch,uer,uhy,uev,ug8,uf6,udy,ucg,udl,ucs,uho,ud8,uex,ugu,uh0,uey,udj,uet,ubu,ud6,ude,udg,uen,ucy,uc1,uh6⟩;have e:=hmg.symm.trans hm;cases e;exact⟨fd,hb,fun base _ _=>hF base⟩
