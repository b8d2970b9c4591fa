"""Orders rung from a bridge to an engine room, by two logs."""
