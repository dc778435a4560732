"""Areas of a world: what players see of it, told in streams of bytes."""
