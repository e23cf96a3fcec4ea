"""quasifloors: floors that never repeat, told exactly."""
