"""Programs that change while promises stay kept."""
